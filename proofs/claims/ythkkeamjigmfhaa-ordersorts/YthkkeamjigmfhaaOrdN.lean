/- order.First. -/
import Derived.Test.YthkkeamjigmfhaaOrdG
namespace Go.Proofs.Ythkkeamjigmfhaa
open Go.RowKit
/-- No place before i comes ahead of f; of those that are the same as it none is ahead of f. -/
def FirstAt (l : List Rx) (i f : Nat) : Prop := ∀ k, k < i → 0 ≤ ordR (atR l k) (atR l f) ∧ (ordR (atR l k) (atR l f) = 0 → f ≤ k)
theorem FirstAt.step {l : List Rx} {i f : Nat} (h : FirstAt l i f) (hfi : f < i) (hq : ¬ ordR (atR l i) (atR l f) < 0) : FirstAt l (i + 1) f := by
  intro k hk
  by_cases e : k = i
  · subst e; exact ⟨by omega, fun _ => by omega⟩
  · exact h k (by omega)
theorem FirstAt.take {l : List Rx} {i f : Nat} (h : FirstAt l i f) (hq : ordR (atR l i) (atR l f) < 0) : FirstAt l (i + 1) i := by
  intro k hk
  by_cases e : k = i
  · subst e; rw [ordR_self]; exact ⟨Int.le_refl _, fun _ => Nat.le_refl _⟩
  · have h1 := (h k (by omega)).1
    have h2 : ordR (atR l f) (atR l k) ≤ 0 := by rw [ordR_neg]; omega
    have h3 := ordR_trans _ _ _ (Int.le_of_lt hq) h2
    have h4 : ordR (atR l k) (atR l i) = - ordR (atR l i) (atR l k) := ordR_neg _ _
    have h5 : ordR (atR l i) (atR l k) ≠ 0 := fun e0 => by
      have e1 := (ordR_zero _ _).1 e0
      rw [e1] at hq
      omega
    exact ⟨by omega, fun e0 => by omega⟩
def firstInv (l : List Rx) (w : World) (y z : Value) (wr : World) : Prop := ∃ i f : Nat, i ≤ l.length ∧ y = .int .i64 f ∧ z = .int .i64 i ∧ (f < i ∨ f = 0) ∧ FirstAt l i f ∧ Below w.heap.size w wr
def FirstPost (l : List Rx) (w : World) (e : Ending) (w' : World) : Prop := ∃ f : Nat, e = .returned (.tuple #[.int .i64 f, .bool (decide (0 < l.length))]) ∧ (f < l.length ∨ f = 0) ∧ FirstAt l l.length f ∧ Below w.heap.size w w'
set_option maxHeartbeats 2000000 in
theorem first_any {ok : Nat → Prop} (l : List Rx) (al : Option Addr) (cap : Nat) (w : World) (hl : l.length < 2199023255552) (hR : RowAt ok w al l) :
    Calls Try.prog 15 #[.slice al l.length cap] w (FirstPost l w) := by
  have HR := Lib.hid hR
  clear hR
  go_enter Try.func15, Try.ntmps15
  go_wp2
  go_loopw [4, 8] (fun y z wr => firstInv l w y z wr) (fun _ z _ => l.length - (intOf z).toNat)
  case atStart => exact ⟨0, 0, Nat.zero_le _, rfl, rfl, .inr rfl, fun k hk => absurd hk (Nat.not_lt_zero _), Below.refl _ _⟩
  case round =>
    obtain ⟨i, f, hi, rfl, rfl, hfi, hF, hb⟩ := hrel
    by_cases hlt : i < l.length
    · have hf : f < l.length := by omega
      obtain ⟨b, off, hab, hblt, hnode0⟩ := HR.out.kid hlt
      obtain ⟨b', off', hab', hblt', hnode0'⟩ := HR.out.kid hf
      subst hab
      simp at hab'
      obtain ⟨rfl, rfl⟩ := hab'
      have hnode := NodeAt.below hb _ hblt hnode0
      have hnode' := NodeAt.below hb _ hblt hnode0'
      have s1 : ¬ ordR l[i] l[f] < 0 → (f < i + 1 ∨ f = 0) ∧ FirstAt l (i + 1) f := fun h => by
        refine ⟨by omega, ?_⟩
        by_cases e : f < i
        · exact hF.step e (by rw [atR_get hlt, atR_get hf]; exact h)
        · intro k hk
          have : k = 0 := by omega
          have : f = 0 := by omega
          subst f; subst k
          rw [ordR_self]; exact ⟨Int.le_refl _, fun _ => Nat.le_refl _⟩
      have s2 : ordR l[i] l[f] < 0 → FirstAt l (i + 1) i := fun h => hF.take (by rw [atR_get hlt, atR_get hf]; exact h)
      have S1 := Lib.hid s1
      have S2 := Lib.hid s2
      clear s1 s2 hF hnode0 hnode0'
      generalize l[i] = kid at *
      generalize l[f] = kid' at *
      obtain ⟨kk, ⟨ta, tb, tc, td⟩, kks⟩ := kid
      obtain ⟨kk', ⟨ta', tb', tc', td'⟩, kks'⟩ := kid'
      obtain ⟨bl, bcap, ⟨c0, c1, c2, c3, c4, c5⟩, hre⟩ := hnode.read
      obtain ⟨bl', bcap', ⟨e0, e1, e2, e3, e4, e5⟩, hre'⟩ := hnode'.read
      simp only at c0 c1 c2 c3 c4 c5 e0 e1 e2 e3 e4 e5
      have KK := Lib.hid (twoX _ _ _ _ wr.drew (hre.below (Below.refl _ _).drew) (hre'.below (Below.refl _ _).drew))
      generalize ordR (Rx.node kk ⟨ta, tb, tc, td⟩ kks) (Rx.node kk' ⟨ta', tb', tc', td'⟩ kks') = q at *
      clear hnode hnode' hre hre'
      have q1 : (i : Int) < (l.length : Int) := by omega
      have q2 : (f : Int) < (l.length : Int) := by omega
      go_wp2_with fail
      go_still_tail 8, (by kernel_rfl)
      change wpList _ _ _ _ _ wr.drew
      go_wp2_with fail
      refine KK.out.mono ?_
      rintro _ w1 ⟨rfl, hb1⟩
      replace hb : Below w.heap.size w w1 := hb.drew.trans (hb1.mono hb.drew.size)
      clear c0 c1 c2 c3 c4 c5 e0 e1 e2 e3 e4 e5 hb1
      by_cases hq : q < 0
      · have d9 : decide (q < 0) = true := by simpa using hq
        have HF := Lib.hid (S2.out hq)
        clear hq S1 S2 hfi
        go_wp2
        exact ⟨⟨i + 1, i, by omega, rfl, by go_num, .inl (by omega), HF.out, hb⟩, by simp [intOf]; omega⟩
      · have d9 : decide (q < 0) = false := by simpa using hq
        have HF := Lib.hid (S1.out (by omega))
        clear hq S1 S2 hfi
        go_wp2
        exact ⟨⟨i + 1, f, by omega, rfl, by go_num, HF.out.1, HF.out.2, hb⟩, by simp [intOf]; omega⟩
    · have he : i = l.length := by omega
      have q1 : ¬ (i : Int) < (l.length : Int) := by omega
      rw [he] at hF hfi
      have HF := Lib.hid hF
      clear hF he
      go_wp2
      go_ret2
      exact ⟨f, by simp, hfi, HF.out, hb⟩
end Go.Proofs.Ythkkeamjigmfhaa
