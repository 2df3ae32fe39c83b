import Derived.Test.YtglllbolgahacaaNumNameA
namespace Go.Proofs.Ytglllbolgahacaa
open Go.RowKit
def refNameInv (s : ByteArray) (i : Value) : Prop := ∃ k : Nat, k ≤ s.size ∧ i = .int .i64 k ∧ ∀ j (hj : j < s.size), j < k → chB (s[j]'hj).toNat = true
set_option maxHeartbeats 1000000 in
theorem refName_any (s : ByteArray) (w : World) (hs : s.size ≤ maxLen) :
    Calls Try.prog 13 #[.string s] w fun e w' => e = .returned (.bool (nameB s.data.toList)) ∧ w = w' := by
  unfold maxLen at hs
  by_cases h0 : s.size < 1
  · rw [nameB_nil s (by omega)]
    have h1 : decide ((s.size : Int) < 1) = true := by simp; omega
    go_enter Try.func13, Try.ntmps13
    go_wp2
    go_ret
    exact ⟨rfl, rfl⟩
  have h1 : decide ((s.size : Int) < 1) = false := by simp; omega
  by_cases h30 : 30 < s.size
  · rw [nameB_long s h30]
    have h3 : decide (30 < (s.size : Int)) = true := by simp; omega
    go_enter Try.func13, Try.ntmps13
    go_wp2
    go_ret
    exact ⟨rfl, rfl⟩
  have h3 : decide (30 < (s.size : Int)) = false := by simp; omega
  have hp : 0 < s.size := by omega
  by_cases hc : lowB (s[0]'hp).toNat = true
  · have HC := Lib.hid hc
    simp only [lowB, decide_eq_true_eq] at hc
    obtain ⟨hc1, hc2⟩ := hc
    have d1 : decide (((s[0]'hp).toNat : Int) < (97 : Int)) = false := by simp; omega
    have d2 : decide ((122 : Int) < ((s[0]'hp).toNat : Int)) = false := by simp; omega
    clear hc1 hc2
    go_enter Try.func13, Try.ntmps13
    go_wp2
    clear d1 d2
    go_loop [3] (fun i => refNameInv s i) (fun i => s.size - (intOf i).toNat)
    case atStart => exact ⟨0, Nat.zero_le _, rfl, fun j hj h => absurd h (Nat.not_lt_zero _)⟩
    case round =>
      obtain ⟨k, hk, rfl, hall⟩ := hrel
      have HA := Lib.hid hall
      clear hall
      by_cases hlt : k < s.size
      · by_cases hch : chB (s[k]'hlt).toNat = true
        · have hfin : refNameInv s (.int .i64 ((k : Int) + 1)) := by
            refine ⟨k + 1, by omega, by go_num, ?_⟩
            intro j hj h
            by_cases e : j = k
            · subst e; exact hch
            · exact HA.out j hj (by omega)
          have HF := Lib.hid hfin
          clear hfin
          simp only [chB, lowB, digB, Bool.or_eq_true, decide_eq_true_eq, beq_iff_eq] at hch
          have HC2 := Lib.hid hch
          clear hch
          rcases HC2.out with (⟨c1, c2⟩ | ⟨c1, c2⟩) | c1
          · have e1 : decide ((97 : Int) ≤ ((s[k]'hlt).toNat : Int)) = true := by simp; omega
            have e2 : decide (((s[k]'hlt).toNat : Int) ≤ (122 : Int)) = true := by simp; omega
            clear c1 c2
            go_wp2
            exact ⟨HF.out, by simp [intOf]; omega⟩
          · have e1 : decide ((97 : Int) ≤ ((s[k]'hlt).toNat : Int)) = false := by simp; omega
            have e3 : decide ((48 : Int) ≤ ((s[k]'hlt).toNat : Int)) = true := by simp; omega
            have e4 : decide (((s[k]'hlt).toNat : Int) ≤ (57 : Int)) = true := by simp; omega
            clear c1 c2
            go_wp2
            exact ⟨HF.out, by simp [intOf]; omega⟩
          · have e1 : decide ((97 : Int) ≤ ((s[k]'hlt).toNat : Int)) = false := by simp; omega
            have e3 : decide ((48 : Int) ≤ ((s[k]'hlt).toNat : Int)) = true := by simp; omega
            have e4 : decide (((s[k]'hlt).toNat : Int) ≤ (57 : Int)) = false := by simp; omega
            have e5 : (((s[k]'hlt).toNat : Int) == (95 : Int)) = true := by simp; omega
            clear c1
            go_wp2
            exact ⟨HF.out, by simp [intOf]; omega⟩
        · have hno := Lib.hid (nameB_no s k hlt (fun h => hch h.1))
          simp only [chB, lowB, digB, Bool.or_eq_true, decide_eq_true_eq, beq_iff_eq] at hch
          have HC2 := Lib.hid hch
          clear hch
          have e5 : (((s[k]'hlt).toNat : Int) == (95 : Int)) = false := by
            have := HC2.out; rw [beq_eq_false_iff_ne]; omega
          have c6 : ((97 : Int) ≤ ((s[k]'hlt).toNat : Int) ∧ (122 : Int) < ((s[k]'hlt).toNat : Int)) ∨ (¬ (97 : Int) ≤ ((s[k]'hlt).toNat : Int) ∧ (((48 : Int) ≤ ((s[k]'hlt).toNat : Int) ∧ (57 : Int) < ((s[k]'hlt).toNat : Int)) ∨ ¬ (48 : Int) ≤ ((s[k]'hlt).toNat : Int))) := by
            have := HC2.out; omega
          rcases c6 with ⟨c1, c2⟩ | ⟨c1, ⟨c2, c3⟩ | c2⟩
          · have e1 : decide ((97 : Int) ≤ ((s[k]'hlt).toNat : Int)) = true := by simp; omega
            have e2 : decide (((s[k]'hlt).toNat : Int) ≤ (122 : Int)) = false := by simp; omega
            have e3 : decide ((48 : Int) ≤ ((s[k]'hlt).toNat : Int)) = true := by simp; omega
            have e4 : decide (((s[k]'hlt).toNat : Int) ≤ (57 : Int)) = false := by simp; omega
            clear c1 c2
            go_wp2
            go_ret
            exact ⟨by rw [hno.out]; rfl, rfl⟩
          · have e1 : decide ((97 : Int) ≤ ((s[k]'hlt).toNat : Int)) = false := by simp; omega
            have e3 : decide ((48 : Int) ≤ ((s[k]'hlt).toNat : Int)) = true := by simp; omega
            have e4 : decide (((s[k]'hlt).toNat : Int) ≤ (57 : Int)) = false := by simp; omega
            clear c1 c2 c3
            go_wp2
            go_ret
            exact ⟨by rw [hno.out]; rfl, rfl⟩
          · have e1 : decide ((97 : Int) ≤ ((s[k]'hlt).toNat : Int)) = false := by simp; omega
            have e3 : decide ((48 : Int) ≤ ((s[k]'hlt).toNat : Int)) = false := by simp; omega
            clear c1 c2
            go_wp2
            go_ret
            exact ⟨by rw [hno.out]; rfl, rfl⟩
      · have hyes := Lib.hid (nameB_yes s (by omega) (by rw [head_of s hp]; exact HC.out) (fun j hj => HA.out j hj (by omega)))
        go_wp2
        go_ret
        exact ⟨by rw [hyes.out]; rfl, rfl⟩
  · have hno := Lib.hid (nameB_no s 0 hp (fun h => hc (h.2 rfl)))
    simp only [lowB, decide_eq_true_eq] at hc
    go_enter Try.func13, Try.ntmps13
    go_wp2
    all_goals
      go_ret
      exact ⟨by rw [hno.out]; rfl, rfl⟩
end Go.Proofs.Ytglllbolgahacaa
