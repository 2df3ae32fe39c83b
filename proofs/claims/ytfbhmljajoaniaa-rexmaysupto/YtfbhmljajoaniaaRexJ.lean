/- rex.Same. -/
import Derived.Test.YtfbhmljajoaniaaRexI
namespace Go.Proofs.Ytfbhmljajoaniaa
open Go.RowKit
def SameAt (ok ok' : Nat → Prop) (N : Nat) : Prop := ∀ (r t : Rx), r.size ≤ N → ∀ (v u : Value) (w : World), ReAt ok w v r → ReAt ok' w u t →
    Calls Try.prog 16 #[v, u] w fun e w' => e = .returned (.bool (sameR r t)) ∧ Below w.heap.size w w'
def equalInv (ks ks' : List Rx) (w : World) (y : Value) (wr : World) : Prop := ∃ i : Nat, i ≤ ks.length ∧ y = .int .i64 i ∧ (∀ j (h1 : j < ks.length) (h2 : j < ks'.length), j < i → sameR ks[j] ks'[j] = true) ∧ Below w.heap.size w wr
set_option maxHeartbeats 4000000 in
theorem equal_of {ok ok' : Nat → Prop} {N : Nat} (ih : SameAt ok ok' N) (ks ks' : List Rx) (hN : Rx.sizes ks ≤ N) (al al' : Option Addr) (cap cap' : Nat) (w : World) (_hl : ks.length < 2199023255552) (hl' : ks'.length < 2199023255552) (hR : RowAt ok w al ks) (hU : RowAt ok' w al' ks') :
    Calls Try.prog 30 #[.slice al ks.length cap, .slice al' ks'.length cap', .func (.func 16) #[] #[]] w fun e w' => e = .returned (.bool (sameRs ks ks')) ∧ Below w.heap.size w w' := by
  have IH := Lib.hid ih
  have HR := Lib.hid hR
  have HU := Lib.hid hU
  clear ih hR hU
  by_cases hll : ks.length = ks'.length
  · have d1 : ((ks.length : Int) != (ks'.length : Int)) = false := by simp; omega
    have HLL := Lib.hid hll
    have l1 : ks.length ≤ ks'.length := by omega
    have l2 : ks'.length ≤ ks.length := by omega
    clear hll
    go_enter Try.func30, Try.ntmps30
    go_wp2
    go_loopw [17] (fun y wr => equalInv ks ks' w y wr) (fun y _ => ks.length - (intOf y).toNat)
    case atStart => exact ⟨0, Nat.zero_le _, rfl, fun j _ _ h => absurd h (Nat.not_lt_zero _), Below.refl _ w⟩
    case round =>
      obtain ⟨i, hi, rfl, hall, hb⟩ := hrel
      have HA := Lib.hid hall
      clear hall
      by_cases hlt : i < ks.length
      · have hlt' : i < ks'.length := by omega
        obtain ⟨b, off, hab, hblt, hnode⟩ := HR.out.kid hlt
        obtain ⟨b', off', hab', hblt', hnode'⟩ := HU.out.kid hlt'
        subst hab
        subst hab'
        have hkid := NodeAt.below hb _ hblt hnode
        have hkid' := NodeAt.below hb _ hblt' hnode'
        have hks := size_kid hlt
        have HSA := fun h => sameRs_at (l := ks) (m := ks') i hlt hlt' h
        have HSB : ∀ h : sameR ks[i] ks'[i] = true, ∀ j (h1 : j < ks.length) (h2 : j < ks'.length), j < i + 1 → sameR ks[j] ks'[j] = true := by
          intro h j h1 h2 hj
          by_cases e : j = i
          · subst e; exact h
          · exact HA.out j h1 h2 (by omega)
        generalize ks[i] = kid at *
        generalize ks'[i] = kid' at *
        obtain ⟨kk, ⟨ta, tb, tc, td⟩, kks⟩ := kid
        obtain ⟨kk', ⟨ta', tb', tc', td'⟩, kks'⟩ := kid'
        obtain ⟨bl, bcap, ⟨c0, c1, c2, c3, c4, c5⟩, hre⟩ := hkid.read
        obtain ⟨bl', bcap', ⟨e0, e1, e2, e3, e4, e5⟩, hre'⟩ := hkid'.read
        simp only at c0 c1 c2 c3 c4 c5 e0 e1 e2 e3 e4 e5
        have KK := Lib.hid fun W (h : Below wr.heap.size wr W) => IH.out _ _ (Nat.le_trans hks hN) _ _ W (hre.below h) (hre'.below h)
        generalize sameR (Rx.node kk ⟨ta, tb, tc, td⟩ kks) (Rx.node kk' ⟨ta', tb', tc', td'⟩ kks') = q at *
        have HSA' := Lib.hid HSA
        have HSB' := Lib.hid HSB
        clear hkid hkid' hnode hnode' HSA HSB hre hre'
        have q2 : (i : Int) < (ks'.length : Int) := by omega
        have q3 : b' < wr.heap.size := Nat.lt_of_lt_of_le hblt' hb.size
        go_wp2_with fail
        refine (KK.out _ (((Below.refl _ wr).alloc (Nat.le_refl _) _).alloc (by simp) _)).mono ?_
        rintro e w1 ⟨rfl, hb1⟩
        replace hb : Below w.heap.size w w1 := hb.trans (((((Below.refl _ wr).alloc (Nat.le_refl _) _).alloc (by simp) _).trans (hb1.mono (by simp; omega))).mono hb.size)
        clear c0 c1 c2 c3 c4 c5 e0 e1 e2 e3 e4 e5 hb1
        cases q with
        | true =>
          go_wp2
          exact ⟨⟨i + 1, by omega, by go_num, HSB'.out trivial, hb⟩, by simp [intOf]; omega⟩
        | false =>
          go_wp2
          go_ret
          exact ⟨by rw [HSA'.out trivial]; rfl, hb⟩
      · have hall : sameRs ks ks' = true := sameRs_all HLL.out fun j h1 h2 => HA.out j h1 h2 (by omega)
        have HX := Lib.hid hall
        clear hall
        go_wp2
        go_ret
        exact ⟨by rw [HX.out]; rfl, hb⟩
  · have d1 : ((ks.length : Int) != (ks'.length : Int)) = true := by simp; omega
    have hno := Lib.hid (sameRs_length hll)
    clear hll
    go_enter Try.func30, Try.ntmps30
    go_wp2
    go_ret
    exact ⟨by rw [hno.out]; rfl, Below.refl _ w⟩
set_option maxHeartbeats 4000000 in
theorem same_all (ok ok' : Nat → Prop) (N : Nat) : SameAt ok ok' N := by
  induction N with
  | zero => intro r _ h; have := r.size_pos; omega
  | succ N ih =>
    rintro ⟨k, s, ks⟩ ⟨k', s', ks'⟩ hN v u w hR hU
    obtain ⟨hk, hs, al, cap, rfl, hcap, hmax, hrow⟩ := hR
    obtain ⟨hk', hs', al', cap', rfl, hcap', hmax', hrow'⟩ := hU
    have hN' : Rx.sizes ks ≤ N := by simp [Rx.size] at hN; omega
    have KE := Lib.hid fun W (h : Below w.heap.size w W) => equal_of ih ks ks' hN' al al' cap cap' W hmax hmax' (hrow.below h) (hrow'.below h)
    clear ih hrow hrow' hN
    unfold sameR
    generalize sameRs ks ks' = q at *
    by_cases hkk : k = k'
    · subst hkk
      by_cases hss : s = s'
      · subst hss
        have hq := eqW_yes s
        have hsw : sameW s s = true := sameW_iff.2 rfl
        rw [hsw]
        obtain ⟨sa, sb, sc, sd⟩ := s
        unfold Ws.v at hq
        clear hsw
        go_enter Try.func16, Try.ntmps16
        go_wp2_with fail
        refine (KE.out _ (((Below.refl _ w).alloc (Nat.le_refl _) _).alloc (by simp) _)).mono ?_
        rintro e w1 ⟨rfl, hb1⟩
        have hbw : Below w.heap.size w w1 := (((Below.refl _ w).alloc (Nat.le_refl _) _).alloc (by simp) _).trans (hb1.mono (by simp; omega))
        clear hb1
        go_wp2
        go_ret
        exact ⟨by simp, hbw⟩
      · have hq := eqW_no hss
        have hsw : sameW s s' = false := by
          have : ¬ sameW s s' = true := fun e => hss (sameW_iff.1 e)
          simpa using this
        rw [hsw]
        obtain ⟨sa, sb, sc, sd⟩ := s
        obtain ⟨sa', sb', sc', sd'⟩ := s'
        unfold Ws.v at hq
        clear hsw hss
        go_enter Try.func16, Try.ntmps16
        go_wp2
        go_ret
        exact ⟨by simp, ((Below.refl _ _).alloc (Nat.le_refl _) _).alloc (by simp) _⟩
    · have hd : decide (k = k') = false := by simpa using hkk
      rw [hd]
      have d1 : ((k : Int) == (k' : Int)) = false := by simp; omega
      obtain ⟨sa, sb, sc, sd⟩ := s
      obtain ⟨sa', sb', sc', sd'⟩ := s'
      clear hd hkk
      go_enter Try.func16, Try.ntmps16
      go_wp2
      go_ret
      exact ⟨by simp, ((Below.refl _ _).alloc (Nat.le_refl _) _).alloc (by simp) _⟩
theorem sameX {ok ok' : Nat → Prop} (r t : Rx) (v u : Value) (w : World) (h : ReAt ok w v r) (h' : ReAt ok' w u t) :
    Calls Try.prog 16 #[v, u] w fun e w' => e = .returned (.bool (sameR r t)) ∧ Below w.heap.size w w' := same_all ok ok' r.size r t (Nat.le_refl _) v u w h h'
theorem refSame {ok ok' : Nat → Prop} (r t : Rx) (v u : Value) (w : World) (h : ReAt ok w v r) (h' : ReAt ok' w u t) :
    Calls Try.prog 15 #[v, u] w fun e w' => e = .returned (.bool (sameR r t)) ∧ Below w.heap.size w w' := refSame_any r.size r t (Nat.le_refl _) v u w h h'
end Go.Proofs.Ytfbhmljajoaniaa
