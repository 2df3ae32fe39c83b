/- Decimal digits and the number that they tell: there and back. -/
import Derived.Test.YtglllbolgahacaaDoorNumReadA
import Derived.Test.YtglllbolgahacaaDoorNumDigB
namespace Go.Proofs.YtglllbolgahacaaDoor
open Go.RowKit
theorem digc (d : Nat) (h : d < 10) : (UInt8.ofNat (48 + d)).toNat = 48 + d := by
  simp only [UInt8.toNat_ofNat']; omega
theorem val_dec (n : Nat) : valN (Lib.decDigits n) = n := by
  induction n using Nat.strongRecOn with
  | ind n ih =>
    rw [Lib.decDigits]
    split
    · rename_i h
      simp only [valN, List.foldl_cons, List.foldl_nil]
      rw [digc n h]; omega
    · rw [valN_snoc, ih (n / 10) (by omega), digc _ (by omega)]; omega
theorem dec_digs (n : Nat) : ((Lib.decDigits n).all fun c => digB c.toNat) = true := by
  induction n using Nat.strongRecOn with
  | ind n ih =>
    rw [Lib.decDigits]
    split
    · rename_i h
      simp only [List.all_cons, List.all_nil, Bool.and_true]
      rw [digc n h]; simp [digB]; omega
    · rw [List.all_append, ih (n / 10) (by omega)]
      simp only [List.all_cons, List.all_nil, Bool.and_true, Bool.true_and]
      rw [digc _ (by omega)]; simp [digB]; omega
theorem dec_head48 (n : Nat) : 1 ≤ n → ∃ c t, Lib.decDigits n = c :: t ∧ c.toNat ≠ 48 := by
  induction n using Nat.strongRecOn with
  | ind n ih =>
    intro h1
    rw [Lib.decDigits]
    split
    · rename_i h
      exact ⟨_, [], rfl, by rw [digc n h]; omega⟩
    · obtain ⟨c, t, e, hc⟩ := ih (n / 10) (by omega) (by omega)
      rw [e]; exact ⟨c, _, rfl, hc⟩
theorem dec_short (n : Nat) : shortB (Lib.decDigits n) = false := by
  by_cases h : n < 10
  · rw [Lib.decDigits, dif_pos h]; rfl
  · obtain ⟨c, t, e, hc⟩ := dec_head48 n (by omega)
    rw [e]
    cases t with
    | nil => rfl
    | cons d u => simpa [shortB] using hc
theorem dec_bad (n : Nat) : badB (Lib.decDigits n) = false := by simp [badB, dec_short, dec_digs]
theorem read_dec (n : Nat) (h : n ≤ 1000000) : readN (Lib.decDigits n) = n ∧ readE (Lib.decDigits n) = 0 := by
  have := read_ok (dec_bad n) (by rw [val_dec]; exact h)
  rw [val_dec] at this; exact this
theorem dec_val_rev (r : List UInt8) : badB r.reverse = false → Lib.decDigits (valN r.reverse) = r.reverse := by
  induction r with
  | nil => intro h; simp [badB, shortB] at h
  | cons c t ih =>
    intro h
    rw [List.reverse_cons] at h ⊢
    have hd : digB c.toNat = true := by
      simp only [badB, Bool.or_eq_false_iff, Bool.not_eq_false', List.all_append, Bool.and_eq_true] at h
      simpa using h.2.2
    have hc : 48 ≤ c.toNat ∧ c.toNat ≤ 57 := by simp [digB] at hd; omega
    have e1 : UInt8.ofNat (48 + (c.toNat - 48)) = c := by
      rw [show 48 + (c.toNat - 48) = c.toNat from by omega]; exact UInt8.ofNat_toNat
    rw [valN_snoc]
    cases ht : t.reverse with
    | nil =>
      simp only [valN, List.foldl_nil, List.nil_append]
      rw [Lib.decDigits, dif_pos (by omega), show 48 + (10 * 0 + (c.toNat - 48)) = 48 + (c.toNat - 48) from by omega, e1]
    | cons x u =>
      rw [ht] at h ih
      simp only [badB, Bool.or_eq_false_iff, Bool.not_eq_false', List.all_append, Bool.and_eq_true] at h
      obtain ⟨hs, ha, _⟩ := h
      have hx : x.toNat ≠ 48 := by
        have : shortB (x :: u ++ [c]) = (x.toNat == 48) := by cases u <;> rfl
        rw [this] at hs; simpa using hs
      have hs2 : shortB (x :: u) = false := by
        cases u with
        | nil => rfl
        | cons y v => simpa [shortB] using hx
      have hb2 : badB (x :: u) = false := by simp only [badB, hs2, ha]; rfl
      have ih2 := ih hb2
      have h1 : 1 ≤ valN (x :: u) := by
        rcases Nat.eq_zero_or_pos (valN (x :: u)) with z | z
        · rw [z, Lib.decDigits, dif_pos (by omega)] at ih2
          have e2 : x = UInt8.ofNat (48 + 0) := by injection ih2 with a b; exact a.symm
          exfalso; apply hx; rw [e2]; rfl
        · exact z
      rw [Lib.decDigits, dif_neg (by omega), show (10 * valN (x :: u) + (c.toNat - 48)) / 10 = valN (x :: u) from by omega,
        show (10 * valN (x :: u) + (c.toNat - 48)) % 10 = c.toNat - 48 from by omega, ih2, e1]
theorem dec_val (l : List UInt8) (h : badB l = false) : Lib.decDigits (valN l) = l := by
  have := dec_val_rev l.reverse
  simp only [List.reverse_reverse] at this
  exact this h
theorem join_one (n : Int) : joinL [n] = digL n := by simp [joinL]
/-- What is read has these digits. -/
theorem dig_read (l : List UInt8) (h : readE l = 0) : digL (readN l) = l := by
  by_cases hb : badB l = true
  · rw [(read_bad hb).2] at h; cases h
  · have hb' : badB l = false := by simpa using hb
    by_cases hv : valN l ≤ 1000000
    · rw [(read_ok hb' hv).1]
      unfold digL
      rw [if_pos (by omega), show ((valN l : Nat) : Int).toNat = valN l from by omega, dec_val l hb']
    · rw [(read_big hb' (by omega)).2] at h; cases h
/-- Any number's digits are read as it. -/
theorem read_dig (n : Int) (h : 0 ≤ n ∧ n ≤ 1000000) : readN (digL n) = n ∧ readE (digL n) = 0 := by
  unfold digL
  rw [if_pos h]
  have := read_dec n.toNat (by omega)
  rw [this.1, this.2]; omega
theorem read_nodig (n : Int) (h : ¬ (0 ≤ n ∧ n ≤ 1000000)) : readE (digL n) = 2 := by
  rw [dig_none n h]; rfl
end Go.Proofs.YtglllbolgahacaaDoor
