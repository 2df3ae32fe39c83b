/- A word's bits from one on; its lowest one; bytes up to one. Plain mathematics. -/
import Derived.Test.YtdkdgbiagjflgaaDoorSetM
namespace Go.Proofs.YtdkdgbiagjflgaaDoor
def hiBits (x m : Nat) : Nat := x / 2 ^ m * 2 ^ m
theorem hiBits_bit (x m j : Nat) : (hiBits x m).testBit j = (decide (m ≤ j) && x.testBit j) := by
  unfold hiBits
  rw [Nat.testBit_mul_two_pow, Nat.testBit_div_two_pow]
  by_cases h : m ≤ j
  · have : j - m + m = j := by omega
    simp [h, this]
  · simp [h]
theorem hiBits_zero (x : Nat) : hiBits x 0 = x := by simp [hiBits]
theorem hiBits_le (x m : Nat) : hiBits x m ≤ x := Nat.div_mul_le_self _ _
/-- The lowest bit of a number that isn't 0. -/
theorem low_bit {y : Nat} (h0 : y ≠ 0) (h : y < 18446744073709551616) :
    ∃ q, y = 2 ^ Lib.ctz 64 y * (2 * q + 1) ∧ Lib.ctz 64 y < 64 := by
  have e : Lib.ctz 64 y = Lib.ctzFrom 64 y := by simp [Lib.ctz, h0]
  rw [e]
  obtain ⟨m, hm, hl⟩ := Lib.ctzFrom_spec 64 y (by omega) h
  exact ⟨m, hm, hl⟩
theorem pow_odd_bit (t q j : Nat) : (2 ^ t * (2 * q + 1)).testBit j = (decide (t = j) || (decide (t < j) && q.testBit (j - t - 1))) := by
  rw [Nat.testBit_two_pow_mul]
  by_cases h : j < t
  · have h1 : ¬ t ≤ j := by omega
    have h2 : ¬ t = j := by omega
    have h3 : ¬ t < j := by omega
    simp [h1, h2, h3]
  · by_cases h2 : t = j
    · subst h2; simp
    · obtain ⟨i, hi⟩ : ∃ i, j - t = i + 1 := ⟨j - t - 1, by omega⟩
      have h1 : t ≤ j := by omega
      have h3 : t < j := by omega
      have a1 : (2 * q + 1) / 2 = q := by omega
      rw [hi, Nat.testBit_succ, a1]
      simp [h1, h2, h3]
theorem clear_low (t q : Nat) : (2 ^ t * (2 * q + 1)) &&& (2 ^ t * (2 * q + 1) - 1) = 2 ^ t * (2 * q) := by
  have hp : 0 < 2 ^ t := Nat.two_pow_pos t
  have e : 2 ^ t * (2 * q + 1) - 1 = 2 ^ t * (2 * q) + (2 ^ t - 1) := by rw [Nat.mul_add]; omega
  apply Nat.eq_of_testBit_eq
  intro j
  rw [Nat.testBit_and, pow_odd_bit, e, Nat.testBit_two_pow_mul_add _ (by omega), Nat.testBit_two_pow_mul]
  by_cases h : j < t
  · have h1 : ¬ t ≤ j := by omega
    have h2 : ¬ t = j := by omega
    have h3 : ¬ t < j := by omega
    simp [h1, h2, h3]
  · by_cases h2 : t = j
    · subst h2; simp
    · obtain ⟨i, hi⟩ : ∃ i, j - t = i + 1 := ⟨j - t - 1, by omega⟩
      have h1 : t ≤ j := by omega
      have h3 : t < j := by omega
      have a1 : (2 * q) / 2 = q := by omega
      rw [hi, Nat.testBit_succ, a1]
      simp [h1, h2, h3, h]
/-- What one round of taking the lowest bit away does. -/
theorem next_bit {x m : Nat} (hx : x < 18446744073709551616) (h0 : hiBits x m ≠ 0) :
    m ≤ Lib.ctz 64 (hiBits x m) ∧ Lib.ctz 64 (hiBits x m) < 64 ∧ x.testBit (Lib.ctz 64 (hiBits x m)) = true ∧ (∀ j, m ≤ j → j < Lib.ctz 64 (hiBits x m) → x.testBit j = false) ∧
      hiBits x m &&& (hiBits x m - 1) = hiBits x (Lib.ctz 64 (hiBits x m) + 1) := by
  obtain ⟨q, hq, ht⟩ := low_bit h0 (Nat.lt_of_le_of_lt (hiBits_le x m) hx)
  generalize Lib.ctz 64 (hiBits x m) = t at hq ht
  have hb : ∀ j, (hiBits x m).testBit j = (decide (t = j) || (decide (t < j) && q.testBit (j - t - 1))) := fun j => by rw [hq]; exact pow_odd_bit t q j
  have h1 : (hiBits x m).testBit t = true := by rw [hb]; simp
  rw [hiBits_bit] at h1
  simp at h1
  refine ⟨h1.1, ht, h1.2, ?_, ?_⟩
  · intro j hm hj
    have := hb j
    rw [hiBits_bit] at this
    have a1 : ¬ t = j := by omega
    have a2 : ¬ t < j := by omega
    simp [hm, a1, a2] at this
    exact this
  · rw [hq, clear_low]
    apply Nat.eq_of_testBit_eq
    intro j
    rw [hiBits_bit, Nat.testBit_two_pow_mul]
    have := hb j
    rw [hiBits_bit] at this
    by_cases h : j ≤ t
    · have a1 : ¬ t + 1 ≤ j := by omega
      by_cases e : t = j
      · subst e; simp; omega
      · have a2 : ¬ t ≤ j := by omega
        simp [a1, a2]
    · have a1 : t + 1 ≤ j := by omega
      have a2 : ¬ t = j := by omega
      have a3 : t < j := by omega
      have a4 : m ≤ j := by omega
      have a5 : t ≤ j := by omega
      obtain ⟨i, hi⟩ : ∃ i, j - t = i + 1 := ⟨j - t - 1, by omega⟩
      have a6 : (2 * q) / 2 = q := by omega
      have a7 : j - t - 1 = i := by omega
      rw [a7] at this
      simp [a2, a3, a4] at this
      rw [this, hi, Nat.testBit_succ, a6]
      simp [a1, a5]
theorem no_bit {x m : Nat} (h0 : hiBits x m = 0) (j : Nat) (hm : m ≤ j) : x.testBit j = false := by
  have := hiBits_bit x m j
  rw [h0] at this
  simp [hm] at this
  exact this
/-- The bytes of a set below one. -/
def upto (s : Ws) (k : Nat) : List Nat := (List.range k).filter s.has
theorem upto_zero (s : Ws) : upto s 0 = [] := rfl
theorem upto_all (s : Ws) : upto s 256 = bytesN s := rfl
theorem upto_succ (s : Ws) (k : Nat) : upto s (k + 1) = if s.has k = true then upto s k ++ [k] else upto s k := by
  unfold upto
  rw [List.range_succ, List.filter_append]
  by_cases h : s.has k = true
  · simp [h]
  · simp [h]
theorem upto_skip (s : Ws) (k : Nat) : ∀ n, (∀ j, k ≤ j → j < k + n → s.has j = false) → upto s (k + n) = upto s k
  | 0, _ => rfl
  | n + 1, h => by
    have e := h (k + n) (by omega) (by omega)
    rw [← Nat.add_assoc, upto_succ, if_neg (by simp [e])]
    exact upto_skip s k n fun j h1 h2 => h j h1 (by omega)
theorem has_word (s : Ws) (i j : Nat) (hj : j < 64) : s.has (64 * i + j) = (s.get i).testBit j := by
  unfold Ws.has
  have e1 : (64 * i + j) / 64 = i := by omega
  have e2 : (64 * i + j) % 64 = j := by omega
  rw [e1, e2]
theorem upto_next (s : Ws) (i m t : Nat) (hm : m ≤ t) (ht : t < 64) (h1 : (s.get i).testBit t = true) (h : ∀ j, m ≤ j → j < t → (s.get i).testBit j = false) :
    upto s (64 * i + (t + 1)) = upto s (64 * i + m) ++ [64 * i + t] := by
  have e : 64 * i + (t + 1) = (64 * i + t) + 1 := by omega
  rw [e, upto_succ, has_word s i t ht, if_pos h1]
  have e2 : 64 * i + t = (64 * i + m) + (t - m) := by omega
  have : upto s (64 * i + t) = upto s (64 * i + m) := by
    rw [e2]
    apply upto_skip
    intro j h2 h3
    have e3 : j = 64 * i + (j - 64 * i) := by omega
    rw [e3, has_word s i _ (by omega)]
    exact h _ (by omega) (by omega)
  rw [this]
theorem upto_end (s : Ws) (i m : Nat) (hm : m ≤ 64) (h : ∀ j, m ≤ j → (s.get i).testBit j = false) : upto s (64 * (i + 1)) = upto s (64 * i + m) := by
  have e2 : 64 * (i + 1) = (64 * i + m) + (64 - m) := by omega
  rw [e2]
  apply upto_skip
  intro j h2 h3
  have e3 : j = 64 * i + (j - 64 * i) := by omega
  rw [e3, has_word s i _ (by omega)]
  exact h _ (by omega)
theorem upto_length (s : Ws) (k : Nat) : (upto s k).length ≤ k := by
  have := List.length_filter_le s.has (List.range k)
  simpa [upto] using this
theorem upto_lt (s : Ws) (k : Nat) : ∀ x ∈ upto s k, x < k := by
  intro x hx
  simp [upto] at hx
  exact hx.1
/-- Numbers of bytes, as bytes. -/
def u8s (l : List Nat) : List UInt8 := l.map UInt8.ofNat
theorem u8s_length (l : List Nat) : (u8s l).length = l.length := by simp [u8s]
theorem u8s_append (a b : List Nat) : u8s (a ++ b) = u8s a ++ u8s b := by simp [u8s]
theorem u8s_nats (l : List Nat) (h : ∀ x ∈ l, x < 256) : (u8s l).map UInt8.toNat = l := by
  induction l with
  | nil => rfl
  | cons x t ih =>
    have h1 := h x (List.mem_cons_self ..)
    have h2 := ih fun y hy => h y (List.mem_cons_of_mem _ hy)
    simp [u8s] at h2 ⊢
    exact ⟨h1, h2⟩
end Go.Proofs.YtdkdgbiagjflgaaDoor
