/- quillref01.Read answers readN, readE of the text's bytes. -/
import Derived.Test.YtglllbolgahacaaNumReadA
namespace Go.Proofs.Ytglllbolgahacaa
open Go.RowKit
def refReadInv (s : ByteArray) (n g i : Value) : Prop :=
  ∃ k m : Nat, ∃ b : Bool, k ≤ s.size ∧ n = .int .i64 m ∧ g = .bool b ∧ i = .int .i64 k ∧ (∀ j (hj : j < s.size), j < k → digB (s[j]'hj).toNat = true) ∧
    ((b = false ∧ valN (s.data.toList.take k) ≤ 1000000 ∧ m = valN (s.data.toList.take k)) ∨ (b = true ∧ 1000000 < valN (s.data.toList.take k) ∧ m ≤ 1000000))
set_option maxHeartbeats 2000000 in
theorem refRead_any (s : ByteArray) (w : World) (hs : s.size ≤ maxLen) :
    Calls Try.prog 8 #[.string s] w fun e w' => e = .returned (.tuple #[.int .i64 (readN s.data.toList), .int .i64 (readE s.data.toList)]) ∧ w = w' := by
  unfold maxLen at hs
  go_enter Try.func8, Try.ntmps8
  go_wp2
  go_loop [4, 5, 6] (fun n g i => refReadInv s n g i) (fun _ _ i => s.size - (intOf i).toNat)
  case atStart =>
    exact ⟨0, 0, false, Nat.zero_le _, rfl, rfl, rfl, fun j hj h => absurd h (Nat.not_lt_zero _), .inl ⟨rfl, by simp [valN], by simp [valN]⟩⟩
  case round =>
    obtain ⟨k, m, b, hk, rfl, rfl, rfl, hall, hval⟩ := hrel
    have HA := Lib.hid hall
    have HV := Lib.hid hval
    have hm : m ≤ 1000000 := by rcases hval with ⟨_, v1, v2⟩ | ⟨_, _, v⟩ <;> omega
    clear hall hval
    by_cases hlt : k < s.size
    · by_cases hc : digB (s[k]'hlt).toNat = true
      · have hr : 48 ≤ (s[k]'hlt).toNat ∧ (s[k]'hlt).toNat ≤ 57 := by have := hc; simp [digB] at this; omega
        have HVS := Lib.hid (val_step s k hlt)
        have HN : Hid (∀ j (hj : j < s.size), j < k + 1 → digB (s[j]'hj).toNat = true) := Lib.hid (fun j hj h => by
          by_cases e : j = k
          · subst e; exact hc
          · exact HA.out j hj (by omega))
        have q1 : (48 : Int) ≤ ((s[k]'hlt).toNat : Int) := by omega
        have q2 : ((s[k]'hlt).toNat : Int) ≤ 57 := by omega
        have d1 : decide (((s[k]'hlt).toNat : Int) < (48 : Int)) = false := by simp; omega
        have d2 : decide ((57 : Int) < ((s[k]'hlt).toNat : Int)) = false := by simp; omega
        obtain ⟨hr1, hr2⟩ := hr
        by_cases hg : 1000000 < 10 * m + ((s[k]'hlt).toNat - 48)
        · have d3 : decide ((1000000 : Int) < 10 * (m : Int) + (((s[k]'hlt).toNat : Int) - 48)) = true := by simp; omega
          go_wp2
          refine ⟨⟨k + 1, 1000000, true, by omega, rfl, rfl, by go_num, HN.out, .inr ⟨rfl, ?_, by omega⟩⟩, by simp [intOf]; omega⟩
          rw [HVS.out]
          rcases HV.out with ⟨_, v1, v2⟩ | ⟨_, v1, v2⟩ <;> omega
        · have d3 : decide ((1000000 : Int) < 10 * (m : Int) + (((s[k]'hlt).toNat : Int) - 48)) = false := by simp; omega
          go_wp2
          refine ⟨⟨k + 1, 10 * m + ((s[k]'hlt).toNat - 48), b, by omega, ?_, rfl, by go_num, HN.out, ?_⟩, by simp [intOf]; omega⟩
          · rw [show ((10 * m + ((s[k]'hlt).toNat - 48) : Nat) : Int) = 10 * (m : Int) + (((s[k]'hlt).toNat : Int) - 48) from by omega]
          · rw [HVS.out]
            rcases HV.out with ⟨e, v1, v2⟩ | ⟨e, v1, v2⟩
            · left; exact ⟨e, by omega, by omega⟩
            · right; exact ⟨e, by omega, by omega⟩
      · have hc' : digB (s[k]'hlt).toNat = false := by simpa using hc
        have hno := Lib.hid (read_bad (bad_dig s k hlt hc'))
        simp only [digB, decide_eq_false_iff_not] at hc'
        clear hc
        by_cases hl : ((s[k]'hlt).toNat : Int) < 48
        · have d1 : decide (((s[k]'hlt).toNat : Int) < (48 : Int)) = true := by simp; omega
          clear hc'
          go_wp2
          go_ret2
          exact ⟨by rw [hno.out.1, hno.out.2]; rfl, rfl⟩
        · have d1 : decide (((s[k]'hlt).toNat : Int) < (48 : Int)) = false := by simp; omega
          have d2 : decide ((57 : Int) < ((s[k]'hlt).toNat : Int)) = true := by simp; omega
          clear hc' hl
          go_wp2
          go_ret2
          exact ⟨by rw [hno.out.1, hno.out.2]; rfl, rfl⟩
    · have htk : s.data.toList.take k = s.data.toList := List.take_of_length_le (by simp; have : s.size = s.data.size := rfl; omega)
      have hv := HV.out
      rw [htk] at hv
      clear htk
      have HV2 := Lib.hid hv
      have HA2 : Hid (∀ j (hj : j < s.size), digB (s[j]'hj).toNat = true) := Lib.hid (fun j hj => HA.out j hj (by omega))
      clear hv
      by_cases h0 : s.size = 0
      · have d4 : ((s.size : Int) == 0) = true := by rw [h0]; rfl
        have hno := Lib.hid (read_bad (bad_short (short_nil s h0)))
        clear h0
        go_wp2
        go_ret2
        exact ⟨by rw [hno.out.1, hno.out.2]; rfl, rfl⟩
      have d4 : ((s.size : Int) == 0) = false := by rw [beq_eq_false_iff_ne]; omega
      have hp : 0 < s.size := by omega
      by_cases h48 : 1 < s.size ∧ (s[0]'hp).toNat = 48
      · have hno := Lib.hid (read_bad (bad_short (l := s.data.toList) (by rw [short_more s h48.1, h48.2]; rfl)))
        have d1 : decide ((1 : Int) < (s.size : Int)) = true := by simp; omega
        have d2 : (((s[0]'hp).toNat : Int) == 48) = true := by simp; omega
        clear h48 h0
        go_wp2
        go_ret2
        exact ⟨by rw [hno.out.1, hno.out.2]; rfl, rfl⟩
      have hsh : shortB s.data.toList = false := by
        by_cases h1 : 1 < s.size
        · rw [short_more s h1]; simp; intro e; exact h48 ⟨h1, e⟩
        · exact short_one s (by omega)
      have hcs : (decide ((1 : Int) < (s.size : Int)) = false) ∨ (decide ((1 : Int) < (s.size : Int)) = true ∧ (((s[0]'hp).toNat : Int) == 48) = false) := by
        by_cases h1 : 1 < s.size
        · right; refine ⟨by simp; omega, ?_⟩
          rw [beq_eq_false_iff_ne]; intro e; exact h48 ⟨h1, by omega⟩
        · left; simp; omega
      have hnb := Lib.hid (bad_not s hsh HA2.out)
      clear h48 h0 hsh
      rcases HV2.out with ⟨rfl, v1, v2⟩ | ⟨rfl, v1, v2⟩
      · have hok := Lib.hid (read_ok hnb.out v1)
        have V2 := Lib.hid v2
        clear v1 v2
        rcases hcs with d1 | ⟨d1, d2⟩
        all_goals
          go_wp2
          go_ret2
          exact ⟨by rw [hok.out.1, hok.out.2, V2.out]; rfl, rfl⟩
      · have hok := Lib.hid (read_big hnb.out v1)
        clear v1 v2
        rcases hcs with d1 | ⟨d1, d2⟩
        all_goals
          go_wp2
          go_ret2
          exact ⟨by rw [hok.out.1, hok.out.2]; rfl, rfl⟩
end Go.Proofs.Ytglllbolgahacaa
