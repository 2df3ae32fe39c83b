/- quillref03's Same. -/
import Derived.Test.YtdkdgbiagjflgaaDoorRexA
import Derived.Test.YtdkdgbiagjflgaaDoorSetQ
import Derived.StillTailTactics
namespace Go.Proofs.YtdkdgbiagjflgaaDoor
open Go.RowKit
def sameW (s t : Ws) : Bool := decide (s.a = t.a ∧ s.b = t.b ∧ s.c = t.c ∧ s.d = t.d)
theorem sameW_iff {s t : Ws} : sameW s t = true ↔ s = t := by
  obtain ⟨a, b, c, d⟩ := s
  obtain ⟨a', b', c', d'⟩ := t
  simp [sameW]
mutual
def sameR : Rx → Rx → Bool
  | .node k s ks, .node k' s' ks' => decide (k = k') && (sameW s s' && sameRs ks ks')
def sameRs : List Rx → List Rx → Bool
  | [], [] => true
  | a :: l, b :: m => sameR a b && sameRs l m
  | [], _ :: _ => false
  | _ :: _, [] => false
end
mutual
theorem sameR_iff : ∀ (a b : Rx), sameR a b = true ↔ a = b
  | .node k s ks, .node k' s' ks' => by
    unfold sameR
    simp only [Bool.and_eq_true, decide_eq_true_eq, sameW_iff, sameRs_iff ks ks', Rx.node.injEq]
theorem sameRs_iff : ∀ (l m : List Rx), sameRs l m = true ↔ l = m
  | [], [] => by simp [sameRs]
  | a :: l, b :: m => by
    unfold sameRs
    simp only [Bool.and_eq_true, sameR_iff a b, sameRs_iff l m, List.cons.injEq]
  | [], _ :: _ => by simp [sameRs]
  | _ :: _, [] => by simp [sameRs]
end
theorem sameRs_length {l m : List Rx} (h : l.length ≠ m.length) : sameRs l m = false := by
  have : ¬ sameRs l m = true := fun e => h (by rw [(sameRs_iff l m).1 e])
  simpa using this
theorem sameRs_at {l m : List Rx} (i : Nat) (h : i < l.length) (h' : i < m.length) (hne : sameR l[i] m[i] = false) : sameRs l m = false := by
  have : ¬ sameRs l m = true := fun e => by
    have := (sameRs_iff l m).1 e
    subst this
    have h2 := (sameR_iff l[i] l[i]).2 rfl
    rw [h2] at hne; cases hne
  simpa using this
theorem sameRs_all {l m : List Rx} (hl : l.length = m.length) (h : ∀ i (h1 : i < l.length) (h2 : i < m.length), sameR l[i] m[i] = true) : sameRs l m = true := by
  rw [sameRs_iff]
  apply List.ext_getElem hl
  intro i h1 h2
  exact (sameR_iff _ _).1 (h i h1 h2)
def sameInv (ks ks' : List Rx) (w : World) (v v' : Value) (y : Value) (wr : World) : Prop := ∃ i : Nat, i ≤ ks.length ∧ y = .int .i64 i ∧ (∀ j (h1 : j < ks.length) (h2 : j < ks'.length), j < i → sameR ks[j] ks'[j] = true) ∧ wr.cell? ⟨w.heap.size, 5, none⟩ = some v ∧ wr.cell? ⟨w.heap.size + 1, 5, none⟩ = some v' ∧ Below w.heap.size w wr
set_option maxHeartbeats 2000000 in
theorem refSame_any {ok ok' : Nat → Prop} (N : Nat) : ∀ (r t : Rx), r.size ≤ N → ∀ (v u : Value) (w : World), ReAt ok w v r → ReAt ok' w u t →
    Calls Tryd.prog 15 #[v, u] w fun e w' => e = .returned (.bool (sameR r t)) ∧ Below w.heap.size w w' := by
  induction N with
  | zero => intro r _ h; have := r.size_pos; omega
  | succ N ih =>
    rintro ⟨k, s, ks⟩ ⟨k', s', ks'⟩ hN v u w hR hU
    obtain ⟨hk, hs, al, cap, rfl, hcap, hmax, hrow⟩ := hR
    obtain ⟨hk', hs', al', cap', rfl, hcap', hmax', hrow'⟩ := hU
    have hN' : Rx.sizes ks ≤ N := by simp [Rx.size] at hN; omega
    have IH := Lib.hid ih
    have HR := Lib.hid hrow
    have HU := Lib.hid hrow'
    clear ih hrow hrow' hN
    unfold sameR
    by_cases hkk : k = k'
    · subst hkk
      by_cases hss : s = s'
      · subst hss
        have hq := eqW_yes s
        have hsw : sameW s s = true := sameW_iff.2 rfl
        rw [hsw]
        obtain ⟨sa, sb, sc, sd⟩ := s
        unfold Ws.v at hq
        clear hsw
        by_cases hll : ks.length = ks'.length
        · have d1 : ((ks.length : Int) != (ks'.length : Int)) = false := by simp; omega
          have l1 : ks.length ≤ ks'.length := by omega
          have l2 : ks'.length ≤ ks.length := by omega
          have HLL := Lib.hid hll
          clear hll
          go_enter Tryd.func15, Tryd.ntmps15
          go_wp2
          go_loopw [30] (fun y wr => sameInv ks ks' w (.slice al ks.length cap) (.slice al' ks'.length cap') y wr) (fun y _ => ks.length - (intOf y).toNat)
          case atStart =>
            refine ⟨0, Nat.zero_le _, rfl, fun j _ _ h => absurd h (Nat.not_lt_zero _), ?_, ?_, ((Below.refl _ _).alloc (Nat.le_refl _) _).alloc (by simp) _⟩ <;> simp
          case round =>
            obtain ⟨i, hi, rfl, hall, f5, g5, hb⟩ := hrel
            have HA := Lib.hid hall
            clear hall
            by_cases hlt : i < ks.length
            · have hlt' : i < ks'.length := by omega
              obtain ⟨b, off, hab, hblt, hnode⟩ := HR.out.kid hlt
              obtain ⟨b', off', hab', hblt', hnode'⟩ := HU.out.kid hlt'
              subst hab
              subst hab'
              have hkid := NodeAt.below hb _ hblt hnode
              have hkid' := NodeAt.below hb _ hblt' hnode'
              have hks := size_kid hlt
              have HSA := fun h => sameRs_at (l := ks) (m := ks') i hlt hlt' h
              have HSB : ∀ h : sameR ks[i] ks'[i] = true, ∀ j (h1 : j < ks.length) (h2 : j < ks'.length), j < i + 1 → sameR ks[j] ks'[j] = true := by
                intro h j h1 h2 hj
                by_cases e : j = i
                · subst e; exact h
                · exact HA.out j h1 h2 (by omega)
              generalize ks[i] = kid at *
              generalize ks'[i] = kid' at *
              have KI := fun v u (h : ReAt ok _ v kid) (h' : ReAt ok' _ u kid') => IH.out kid kid' (by omega) v u wr.drew h h'
              generalize sameR kid kid' = q at *
              obtain ⟨kk, ss, kks⟩ := kid
              obtain ⟨kk', ss', kks'⟩ := kid'
              obtain ⟨bl, bcap, ⟨c0, c1, c2, c3, c4, c5⟩, hre⟩ := hkid.read
              obtain ⟨bl', bcap', ⟨e0, e1, e2, e3, e4, e5⟩, hre'⟩ := hkid'.read
              have kI := KI _ _ (hre.below (Below.refl _ _).drew) (hre'.below (Below.refl _ _).drew)
              obtain ⟨ta, tb, tc, td⟩ := ss
              obtain ⟨ta', tb', tc', td'⟩ := ss'
              simp only at c0 c1 c2 c3 c4 c5 e0 e1 e2 e3 e4 e5
              have KK := Lib.hid kI
              have HSA' := Lib.hid HSA
              have HSB' := Lib.hid HSB
              clear kI KI hre hre' hkid hkid' hnode hnode' HSA HSB hks
              have q1 : (i : Int) < (ks.length : Int) := by omega
              have q2 : (i : Int) < (ks'.length : Int) := by omega
              go_wp2_with fail
              go_still_tail 10, (by kernel_rfl)
              change wpList _ _ _ _ _ wr.drew
              go_wp2_with fail
              refine KK.out.mono ?_
              rintro e w1 ⟨rfl, hb1⟩
              have f5' := hb1.cell (p := ⟨w.heap.size, 5, none⟩) (show w.heap.size < wr.drew.heap.size from box_lt f5)
              have g5' := hb1.cell (p := ⟨w.heap.size + 1, 5, none⟩) (show w.heap.size + 1 < wr.drew.heap.size from box_lt g5)
              rw [show wr.drew.cell? ⟨w.heap.size, 5, none⟩ = _ from f5] at f5'
              rw [show wr.drew.cell? ⟨w.heap.size + 1, 5, none⟩ = _ from g5] at g5'
              replace hb := hb.drew.trans (hb1.mono hb.drew.size)
              clear c0 c1 c2 c3 c4 c5 e0 e1 e2 e3 e4 e5 hb1 f5 g5
              cases q with
              | true =>
                go_wp2
                exact ⟨⟨i + 1, by omega, by go_num, HSB'.out trivial, f5', g5', hb⟩, by simp [intOf]; omega⟩
              | false =>
                go_wp2
                go_ret
                exact ⟨by rw [HSA'.out trivial]; simp, hb⟩
            · have hall : sameRs ks ks' = true := sameRs_all HLL.out fun j h1 h2 => HA.out j h1 h2 (by omega)
              have HX := Lib.hid hall
              clear hall
              go_wp2
              go_ret
              exact ⟨by rw [HX.out]; simp, hb⟩
        · have d1 : ((ks.length : Int) != (ks'.length : Int)) = true := by simp; omega
          have hno := Lib.hid (sameRs_length hll)
          clear hll
          go_enter Tryd.func15, Tryd.ntmps15
          go_wp2
          go_ret
          exact ⟨by rw [hno.out]; simp, ((Below.refl _ _).alloc (Nat.le_refl _) _).alloc (by simp) _⟩
      · have hq := eqW_no hss
        have hsw : sameW s s' = false := by
          have : ¬ sameW s s' = true := fun e => hss (sameW_iff.1 e)
          simpa using this
        rw [hsw]
        obtain ⟨sa, sb, sc, sd⟩ := s
        obtain ⟨sa', sb', sc', sd'⟩ := s'
        unfold Ws.v at hq
        clear hsw hss
        go_enter Tryd.func15, Tryd.ntmps15
        go_wp2
        go_ret
        exact ⟨by simp, ((Below.refl _ _).alloc (Nat.le_refl _) _).alloc (by simp) _⟩
    · have hd : decide (k = k') = false := by simpa using hkk
      rw [hd]
      have d1 : ((k : Int) != (k' : Int)) = true := by simp; omega
      obtain ⟨sa, sb, sc, sd⟩ := s
      obtain ⟨sa', sb', sc', sd'⟩ := s'
      clear hd hkk
      go_enter Tryd.func15, Tryd.ntmps15
      go_wp2
      go_ret
      exact ⟨by simp, ((Below.refl _ _).alloc (Nat.le_refl _) _).alloc (by simp) _⟩
end Go.Proofs.YtdkdgbiagjflgaaDoor
