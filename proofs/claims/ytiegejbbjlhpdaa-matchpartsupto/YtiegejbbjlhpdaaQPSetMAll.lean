/- Lemmas of mine, merged: QPSetM, QPSetN, QPSetT. -/
import Derived.Lib.TrailingZeros
/- Lemmas of mine. -/
namespace Go.Proofs.Ytiegejbbjlhpdaa
structure Ws where
  a : Nat
  b : Nat
  c : Nat
  d : Nat
def Ws.Ok (s : Ws) : Prop := s.a < 18446744073709551616 ∧ s.b < 18446744073709551616 ∧ s.c < 18446744073709551616 ∧ s.d < 18446744073709551616
def Ws.get (s : Ws) (i : Nat) : Nat := if i = 0 then s.a else if i = 1 then s.b else if i = 2 then s.c else s.d
def Ws.put (s : Ws) (i x : Nat) : Ws := if i = 0 then ⟨x, s.b, s.c, s.d⟩ else if i = 1 then ⟨s.a, x, s.c, s.d⟩ else if i = 2 then ⟨s.a, s.b, x, s.d⟩ else ⟨s.a, s.b, s.c, x⟩
def Ws.has (s : Ws) (n : Nat) : Bool := (s.get (n / 64)).testBit (n % 64)
def Ws.ins (s : Ws) (n : Nat) : Ws := s.put (n / 64) (s.get (n / 64) ||| 2 ^ (n % 64))
def Ws.nil : Ws := ⟨0, 0, 0, 0⟩
def Ws.full : Ws := ⟨18446744073709551615, 18446744073709551615, 18446744073709551615, 18446744073709551615⟩
theorem Ws.nil_ok : Ws.nil.Ok := by simp [Ws.Ok, Ws.nil]
theorem Ws.full_ok : Ws.full.Ok := by simp [Ws.Ok, Ws.full]
theorem word_ext {x y : Nat} (hx : x < 18446744073709551616) (hy : y < 18446744073709551616) (h : ∀ i, i < 64 → x.testBit i = y.testBit i) : x = y := by
  apply Nat.eq_of_testBit_eq
  intro i
  by_cases hi : i < 64
  · exact h i hi
  · have e : (18446744073709551616 : Nat) = 2 ^ 64 := rfl
    have hp : 2 ^ 64 ≤ 2 ^ i := Nat.pow_le_pow_right (by decide) (by omega)
    rw [Nat.testBit_lt_two_pow (by omega), Nat.testBit_lt_two_pow (by omega)]
theorem Ws.get_lt {s : Ws} (h : s.Ok) (i : Nat) : s.get i < 18446744073709551616 := by
  obtain ⟨h0, h1, h2, h3⟩ := h
  unfold Ws.get
  split
  · exact h0
  · split
    · exact h1
    · split
      · exact h2
      · exact h3
theorem Ws.get_ext {s t : Ws} (h : ∀ i, i < 4 → s.get i = t.get i) : s = t := by
  have h0 := h 0 (by decide)
  have h1 := h 1 (by decide)
  have h2 := h 2 (by decide)
  have h3 := h 3 (by decide)
  obtain ⟨a, b, c, d⟩ := s
  obtain ⟨a', b', c', d'⟩ := t
  simp [Ws.get] at h0 h1 h2 h3
  simp [h0, h1, h2, h3]
theorem Ws.has_ext {s t : Ws} (hs : s.Ok) (ht : t.Ok) (h : ∀ n, n < 256 → s.has n = t.has n) : s = t := by
  apply Ws.get_ext
  intro i hi
  apply word_ext (Ws.get_lt hs i) (Ws.get_lt ht i)
  intro j hj
  have := h (64 * i + j) (by omega)
  unfold Ws.has at this
  have e1 : (64 * i + j) / 64 = i := by omega
  have e2 : (64 * i + j) % 64 = j := by omega
  rwa [e1, e2] at this
theorem Ws.get_put (s : Ws) (i j x : Nat) (hi : i < 4) (hj : j < 4) : (s.put i x).get j = if i = j then x else s.get j := by
  have hi' : i = 0 ∨ i = 1 ∨ i = 2 ∨ i = 3 := by omega
  have hj' : j = 0 ∨ j = 1 ∨ j = 2 ∨ j = 3 := by omega
  rcases hi' with rfl | rfl | rfl | rfl <;> rcases hj' with rfl | rfl | rfl | rfl <;> simp [Ws.put, Ws.get]
theorem Ws.put_ok {s : Ws} (h : s.Ok) (i x : Nat) (hx : x < 18446744073709551616) : (s.put i x).Ok := by
  obtain ⟨h0, h1, h2, h3⟩ := h
  unfold Ws.put
  split
  · exact ⟨hx, h1, h2, h3⟩
  · split
    · exact ⟨h0, hx, h2, h3⟩
    · split
      · exact ⟨h0, h1, hx, h3⟩
      · exact ⟨h0, h1, h2, hx⟩
theorem or_lt {x y : Nat} (hx : x < 18446744073709551616) (hy : y < 18446744073709551616) : x ||| y < 18446744073709551616 := Nat.or_lt_two_pow (n := 64) hx hy
theorem pow_lt64 (n : Nat) : 2 ^ (n % 64) < 18446744073709551616 := by
  have e : (18446744073709551616 : Nat) = 2 ^ 64 := rfl
  rw [e]; exact Nat.pow_lt_pow_right (by decide) (by omega)
theorem Ws.ins_ok {s : Ws} (h : s.Ok) (n : Nat) : (s.ins n).Ok := Ws.put_ok h _ _ (or_lt (Ws.get_lt h _) (pow_lt64 n))
theorem Ws.has_ins (s : Ws) (n m : Nat) (hn : n < 256) (hm : m < 256) : (s.ins n).has m = (s.has m || decide (n = m)) := by
  unfold Ws.has Ws.ins
  rw [Ws.get_put _ _ _ _ (by omega) (by omega)]
  split
  · rename_i e
    rw [Nat.testBit_or, Nat.testBit_two_pow, e]
    congr 1
    rw [decide_eq_decide]; omega
  · have : decide (n = m) = false := by simp; rintro rfl; contradiction
    rw [this, Bool.or_false]
theorem Ws.has_nil (n : Nat) : Ws.nil.has n = false := by
  have : Ws.nil.get (n / 64) = 0 := by unfold Ws.get Ws.nil; repeat' split
                                       all_goals rfl
  simp [Ws.has, this]
theorem Ws.has_full (n : Nat) : Ws.full.has n = true := by
  have : Ws.full.get (n / 64) = 2 ^ 64 - 1 := by unfold Ws.get Ws.full; repeat' split
                                                 all_goals rfl
  unfold Ws.has
  rw [this, Nat.testBit_two_pow_sub_one]
  simp; omega
def ofN (l : List Nat) : Ws := l.foldl Ws.ins Ws.nil
theorem foldl_ok {s : Ws} (h : s.Ok) (l : List Nat) : (l.foldl Ws.ins s).Ok := by
  induction l generalizing s with
  | nil => exact h
  | cons x t ih => exact ih (Ws.ins_ok h x)
theorem ofN_ok (l : List Nat) : (ofN l).Ok := foldl_ok Ws.nil_ok l
theorem ofN_snoc (l : List Nat) (x : Nat) : ofN (l ++ [x]) = (ofN l).ins x := by simp [ofN]
theorem has_foldl (l : List Nat) (s : Ws) (hl : ∀ x ∈ l, x < 256) (m : Nat) (hm : m < 256) : (l.foldl Ws.ins s).has m = (s.has m || l.contains m) := by
  induction l generalizing s with
  | nil => simp
  | cons x t ih =>
    rw [List.foldl_cons, ih _ (fun y hy => hl y (List.mem_cons_of_mem _ hy)), Ws.has_ins _ _ _ (hl x (List.mem_cons_self ..)) hm, List.contains_cons, Bool.or_assoc]
    congr 2
    rw [Bool.eq_iff_iff]; simp; exact eq_comm
theorem has_ofN (l : List Nat) (hl : ∀ x ∈ l, x < 256) (m : Nat) (hm : m < 256) : (ofN l).has m = l.contains m := by
  rw [ofN, has_foldl l _ hl m hm, Ws.has_nil, Bool.false_or]
def Ws.join (s t : Ws) : Ws := ⟨s.a ||| t.a, s.b ||| t.b, s.c ||| t.c, s.d ||| t.d⟩
theorem Ws.join_ok {s t : Ws} (h : s.Ok) (h' : t.Ok) : (s.join t).Ok := ⟨or_lt h.1 h'.1, or_lt h.2.1 h'.2.1, or_lt h.2.2.1 h'.2.2.1, or_lt h.2.2.2 h'.2.2.2⟩
theorem Ws.get_join (s t : Ws) (i : Nat) : (s.join t).get i = s.get i ||| t.get i := by
  unfold Ws.get Ws.join; repeat' split
  all_goals rfl
theorem Ws.has_join (s t : Ws) (n : Nat) : (s.join t).has n = (s.has n || t.has n) := by simp [Ws.has, Ws.get_join]
end Go.Proofs.Ytiegejbbjlhpdaa
/- Lemmas of mine. -/
namespace Go.Proofs.Ytiegejbbjlhpdaa
def upto (s : Ws) (k : Nat) : List Nat := (List.range k).filter s.has
end Go.Proofs.Ytiegejbbjlhpdaa
/- Lemmas of mine. -/
namespace Go.Proofs.Ytiegejbbjlhpdaa
def hexD' (n : Nat) : UInt8 := if n < 10 then UInt8.ofNat (48 + n) else UInt8.ofNat (87 + n)
def resL : List Nat := [92, 124, 42, 40, 41, 91, 93, 46, 45]
def specB (n : Nat) : Bool := decide (n < 33) || decide (126 < n) || resL.contains n
def signL (n : Nat) : List UInt8 := if specB n = true then [92, hexD' (n / 16), hexD' (n % 16)] else [UInt8.ofNat n]
end Go.Proofs.Ytiegejbbjlhpdaa
