/- Lemmas of mine, merged: QPSetM, QPSetN, QPSetT. -/
import Derived.Lib.TrailingZeros
/- Lemmas of mine. -/
namespace Go.Proofs.YthgghaaddankoaaGreatDoor
structure Ws where
  a : Nat
  b : Nat
  c : Nat
  d : Nat
def Ws.Ok (s : Ws) : Prop := s.a < 18446744073709551616 ∧ s.b < 18446744073709551616 ∧ s.c < 18446744073709551616 ∧ s.d < 18446744073709551616
def Ws.get (s : Ws) (i : Nat) : Nat := if i = 0 then s.a else if i = 1 then s.b else if i = 2 then s.c else s.d
def Ws.put (s : Ws) (i x : Nat) : Ws := if i = 0 then ⟨x, s.b, s.c, s.d⟩ else if i = 1 then ⟨s.a, x, s.c, s.d⟩ else if i = 2 then ⟨s.a, s.b, x, s.d⟩ else ⟨s.a, s.b, s.c, x⟩
def Ws.has (s : Ws) (n : Nat) : Bool := (s.get (n / 64)).testBit (n % 64)
def Ws.ins (s : Ws) (n : Nat) : Ws := s.put (n / 64) (s.get (n / 64) ||| 2 ^ (n % 64))
def Ws.nil : Ws := ⟨0, 0, 0, 0⟩
def Ws.full : Ws := ⟨18446744073709551615, 18446744073709551615, 18446744073709551615, 18446744073709551615⟩
theorem Ws.nil_ok : Ws.nil.Ok := by simp [Ws.Ok, Ws.nil]
theorem Ws.full_ok : Ws.full.Ok := by simp [Ws.Ok, Ws.full]
theorem word_ext {x y : Nat} (hx : x < 18446744073709551616) (hy : y < 18446744073709551616) (h : ∀ i, i < 64 → x.testBit i = y.testBit i) : x = y := by
  apply Nat.eq_of_testBit_eq
  intro i
  by_cases hi : i < 64
  · exact h i hi
  · have e : (18446744073709551616 : Nat) = 2 ^ 64 := rfl; have hp : 2 ^ 64 ≤ 2 ^ i := Nat.pow_le_pow_right (by decide) (by omega); rw [Nat.testBit_lt_two_pow (by omega), Nat.testBit_lt_two_pow (by omega)]
theorem Ws.get_lt {s : Ws} (h : s.Ok) (i : Nat) : s.get i < 18446744073709551616 := by
  obtain ⟨h0, h1, h2, h3⟩ := h; unfold Ws.get
  split
  · exact h0
  · split
    · exact h1
    · split
      · exact h2
      · exact h3
theorem Ws.get_ext {s t : Ws} (h : ∀ i, i < 4 → s.get i = t.get i) : s = t := by
  have h0 := h 0 (by decide); have h1 := h 1 (by decide); have h2 := h 2 (by decide); have h3 := h 3 (by decide); obtain ⟨a, b, c, d⟩ := s; obtain ⟨a', b', c', d'⟩ := t; simp [Ws.get] at h0 h1 h2 h3; simp [h0, h1, h2, h3]
theorem Ws.has_ext {s t : Ws} (hs : s.Ok) (ht : t.Ok) (h : ∀ n, n < 256 → s.has n = t.has n) : s = t := by
  apply Ws.get_ext
  intro i hi
  apply word_ext (Ws.get_lt hs i) (Ws.get_lt ht i)
  intro j hj; have := h (64 * i + j) (by omega); unfold Ws.has at this; (have e1 : (64 * i + j) / 64 = i := by omega); (have e2 : (64 * i + j) % 64 = j := by omega)
  rwa [e1, e2] at this
theorem Ws.get_put (s : Ws) (i j x : Nat) (hi : i < 4) (hj : j < 4) : (s.put i x).get j = if i = j then x else s.get j := by
  (have hi' : i = 0 ∨ i = 1 ∨ i = 2 ∨ i = 3 := by omega); (have hj' : j = 0 ∨ j = 1 ∨ j = 2 ∨ j = 3 := by omega)
  rcases hi' with rfl | rfl | rfl | rfl <;> rcases hj' with rfl | rfl | rfl | rfl <;> simp [Ws.put, Ws.get]
theorem Ws.put_ok {s : Ws} (h : s.Ok) (i x : Nat) (hx : x < 18446744073709551616) : (s.put i x).Ok := by
  obtain ⟨h0, h1, h2, h3⟩ := h; unfold Ws.put
  split
  · exact ⟨hx, h1, h2, h3⟩
  · split
    · exact ⟨h0, hx, h2, h3⟩
    · split
      · exact ⟨h0, h1, hx, h3⟩
      · exact ⟨h0, h1, h2, hx⟩
theorem or_lt {x y : Nat} (hx : x < 18446744073709551616) (hy : y < 18446744073709551616) : x ||| y < 18446744073709551616 := Nat.or_lt_two_pow (n := 64) hx hy
theorem pow_lt64 (n : Nat) : 2 ^ (n % 64) < 18446744073709551616 := by
  have e : (18446744073709551616 : Nat) = 2 ^ 64 := rfl; rw [e]; exact Nat.pow_lt_pow_right (by decide) (by omega)
theorem Ws.ins_ok {s : Ws} (h : s.Ok) (n : Nat) : (s.ins n).Ok := Ws.put_ok h _ _ (or_lt (Ws.get_lt h _) (pow_lt64 n))
theorem Ws.has_ins (s : Ws) (n m : Nat) (hn : n < 256) (hm : m < 256) : (s.ins n).has m = (s.has m || decide (n = m)) := by
  unfold Ws.has Ws.ins; rw [Ws.get_put _ _ _ _ (by omega) (by omega)]
  split
  · rename_i e
    rw [Nat.testBit_or, Nat.testBit_two_pow, e]
    congr 1
    rw [decide_eq_decide]; omega
  · (have : decide (n = m) = false := by simp; rintro rfl; contradiction); rw [this, Bool.or_false]
theorem Ws.has_nil (n : Nat) : Ws.nil.has n = false := by
  have : Ws.nil.get (n / 64) = 0 := by unfold Ws.get Ws.nil; repeat' split
                                       all_goals rfl
  simp [Ws.has, this]
theorem Ws.has_full (n : Nat) : Ws.full.has n = true := by
  have : Ws.full.get (n / 64) = 2 ^ 64 - 1 := by unfold Ws.get Ws.full; repeat' split
                                                 all_goals rfl
  unfold Ws.has; rw [this, Nat.testBit_two_pow_sub_one]
  simp; omega
theorem Ws.ins_has {s : Ws} (h : s.Ok) {n : Nat} (hn : n < 256) (hh : s.has n = true) : s.ins n = s := by
  apply Ws.has_ext (Ws.ins_ok h n) h
  intro m hm; rw [Ws.has_ins _ _ _ hn hm]
  by_cases e : n = m
  · subst e; simp [hh]
  · simp [e]
theorem add_bit {x k : Nat} (h : x.testBit k = false) : x + 2 ^ k = x ||| 2 ^ k := by
  have e := Nat.div_add_mod x (2 ^ (k + 1)); have hp : 0 < 2 ^ k := Nat.two_pow_pos k
  have h2 : x / 2 ^ k % 2 = 0 := by
    rw [Nat.testBit_eq_decide_div_mod_eq] at h; simp at h; omega
  have hlt : x % 2 ^ k < 2 ^ k := Nat.mod_lt _ hp; have d := Nat.div_add_mod x (2 ^ k); have hq := Nat.div_add_mod (x / 2 ^ k) 2; rw [h2] at hq
  have hx : x = 2 ^ k * (2 * (x / 2 ^ k / 2)) + x % 2 ^ k := by
    (have : 2 * (x / 2 ^ k / 2) = x / 2 ^ k := by omega); rw [this]; omega
  generalize x / 2 ^ k / 2 = q at hx; generalize x % 2 ^ k = r at hx hlt; subst hx
  apply Nat.eq_of_testBit_eq
  intro i; (have e1 : 2 ^ k * (2 * q) + r + 2 ^ k = 2 ^ k * (2 * q + 1) + r := by rw [Nat.mul_add]; omega); rw [e1, Nat.testBit_or, Nat.testBit_two_pow, Nat.testBit_two_pow_mul_add _ hlt, Nat.testBit_two_pow_mul_add _ hlt]
  by_cases hi : i < k
  · simp [hi]; omega
  · simp only [hi, if_false]
    by_cases hk : i = k
    · subst hk; simp
    · obtain ⟨j, hj⟩ : ∃ j, i - k = j + 1 := ⟨i - k - 1, by omega⟩; have hk' : ¬ k = i := fun e => hk e.symm; rw [hj, Nat.testBit_succ, Nat.testBit_succ]; simp [hk']; (have a1 : (2 * q + 1) / 2 = q := by omega); rw [a1]
def ofN (l : List Nat) : Ws := l.foldl Ws.ins Ws.nil
theorem foldl_ok {s : Ws} (h : s.Ok) (l : List Nat) : (l.foldl Ws.ins s).Ok := by
  induction l generalizing s with
  | nil => exact h
  | cons x t ih => exact ih (Ws.ins_ok h x)
theorem ofN_ok (l : List Nat) : (ofN l).Ok := foldl_ok Ws.nil_ok l
theorem ofN_snoc (l : List Nat) (x : Nat) : ofN (l ++ [x]) = (ofN l).ins x := by simp [ofN]
theorem has_foldl (l : List Nat) (s : Ws) (hl : ∀ x ∈ l, x < 256) (m : Nat) (hm : m < 256) : (l.foldl Ws.ins s).has m = (s.has m || l.contains m) := by
  induction l generalizing s with
  | nil => simp
  | cons x t ih =>
    rw [List.foldl_cons, ih _ (fun y hy => hl y (List.mem_cons_of_mem _ hy)), Ws.has_ins _ _ _ (hl x (List.mem_cons_self ..)) hm, List.contains_cons, Bool.or_assoc]
    congr 2
    rw [Bool.eq_iff_iff]; simp; exact eq_comm
theorem has_ofN (l : List Nat) (hl : ∀ x ∈ l, x < 256) (m : Nat) (hm : m < 256) : (ofN l).has m = l.contains m := by
  rw [ofN, has_foldl l _ hl m hm, Ws.has_nil, Bool.false_or]
def Ws.join (s t : Ws) : Ws := ⟨s.a ||| t.a, s.b ||| t.b, s.c ||| t.c, s.d ||| t.d⟩
theorem Ws.join_ok {s t : Ws} (h : s.Ok) (h' : t.Ok) : (s.join t).Ok := ⟨or_lt h.1 h'.1, or_lt h.2.1 h'.2.1, or_lt h.2.2.1 h'.2.2.1, or_lt h.2.2.2 h'.2.2.2⟩
theorem Ws.get_join (s t : Ws) (i : Nat) : (s.join t).get i = s.get i ||| t.get i := by
  unfold Ws.get Ws.join; repeat' split
  all_goals rfl
theorem Ws.has_join (s t : Ws) (n : Nat) : (s.join t).has n = (s.has n || t.has n) := by simp [Ws.has, Ws.get_join]
def bytesN (s : Ws) : List Nat := (List.range 256).filter s.has
theorem mem_bytesN (s : Ws) (n : Nat) : n ∈ bytesN s ↔ n < 256 ∧ s.has n = true := by simp [bytesN]
theorem bytesN_inj {s t : Ws} (hs : s.Ok) (ht : t.Ok) (h : bytesN s = bytesN t) : s = t := by
  apply Ws.has_ext hs ht
  intro n hn; rw [Bool.eq_iff_iff]; have := mem_bytesN s n; rw [h, mem_bytesN] at this
  constructor
  · intro h1; exact (this.2 ⟨hn, h1⟩).2
  · intro h1; exact (this.1 ⟨hn, h1⟩).2
theorem bytesN_length_le (s : Ws) : (bytesN s).length ≤ 256 := by
  have := List.length_filter_le s.has (List.range 256)
  simpa [bytesN] using this
def cmpN (x y : Nat) : Int := if x < y then -1 else if y < x then 1 else 0
def ordW (s t : Ws) : Int := if s.a ≠ t.a then cmpN s.a t.a else if s.b ≠ t.b then cmpN s.b t.b else if s.c ≠ t.c then cmpN s.c t.c else cmpN s.d t.d
theorem cmpN_neg (x y : Nat) : cmpN y x = - cmpN x y := by unfold cmpN; repeat' split
                                                           all_goals omega
theorem ordW_neg (s t : Ws) : ordW t s = - ordW s t := by
  unfold ordW; simp only [cmpN_neg s.a t.a, cmpN_neg s.b t.b, cmpN_neg s.c t.c, cmpN_neg s.d t.d, ne_comm (a := t.a), ne_comm (a := t.b), ne_comm (a := t.c)]
  repeat' split
  all_goals rfl
theorem cmpN_zero {x y : Nat} : cmpN x y = 0 ↔ x = y := by
  unfold cmpN
  repeat' split
  all_goals omega
theorem ordW_zero (s t : Ws) : ordW s t = 0 ↔ s = t := by
  obtain ⟨a, b, c, d⟩ := s; obtain ⟨a', b', c', d'⟩ := t; unfold ordW; simp only [Ws.mk.injEq]
  by_cases h1 : a = a'
  · by_cases h2 : b = b'
    · by_cases h3 : c = c'
      · simp [h1, h2, h3, cmpN_zero]
      · simp [h1, h2, h3, cmpN_zero]
    · simp [h1, h2, cmpN_zero]
  · simp [h1, cmpN_zero]
end Go.Proofs.YthgghaaddankoaaGreatDoor
/- Lemmas of mine. -/
namespace Go.Proofs.YthgghaaddankoaaGreatDoor
def hiBits (x m : Nat) : Nat := x / 2 ^ m * 2 ^ m
theorem hiBits_bit (x m j : Nat) : (hiBits x m).testBit j = (decide (m ≤ j) && x.testBit j) := by
  unfold hiBits; rw [Nat.testBit_mul_two_pow, Nat.testBit_div_two_pow]
  by_cases h : m ≤ j
  · (have : j - m + m = j := by omega); simp [h, this]
  · simp [h]
theorem hiBits_zero (x : Nat) : hiBits x 0 = x := by simp [hiBits]
theorem hiBits_le (x m : Nat) : hiBits x m ≤ x := Nat.div_mul_le_self _ _
theorem low_bit {y : Nat} (h0 : y ≠ 0) (h : y < 18446744073709551616) :
    ∃ q, y = 2 ^ Lib.ctz 64 y * (2 * q + 1) ∧ Lib.ctz 64 y < 64 := by
  (have e : Lib.ctz 64 y = Lib.ctzFrom 64 y := by simp [Lib.ctz, h0]); rw [e]; obtain ⟨m, hm, hl⟩ := Lib.ctzFrom_spec 64 y (by omega) h; exact ⟨m, hm, hl⟩
theorem pow_odd_bit (t q j : Nat) : (2 ^ t * (2 * q + 1)).testBit j = (decide (t = j) || (decide (t < j) && q.testBit (j - t - 1))) := by
  rw [Nat.testBit_two_pow_mul]
  by_cases h : j < t
  · (have h1 : ¬ t ≤ j := by omega); (have h2 : ¬ t = j := by omega); (have h3 : ¬ t < j := by omega); simp [h1, h2, h3]
  · by_cases h2 : t = j
    · subst h2; simp
    · obtain ⟨i, hi⟩ : ∃ i, j - t = i + 1 := ⟨j - t - 1, by omega⟩; (have h1 : t ≤ j := by omega); (have h3 : t < j := by omega); (have a1 : (2 * q + 1) / 2 = q := by omega); rw [hi, Nat.testBit_succ, a1]; simp [h1, h2, h3]
theorem clear_low (t q : Nat) : (2 ^ t * (2 * q + 1)) &&& (2 ^ t * (2 * q + 1) - 1) = 2 ^ t * (2 * q) := by
  have hp : 0 < 2 ^ t := Nat.two_pow_pos t; (have e : 2 ^ t * (2 * q + 1) - 1 = 2 ^ t * (2 * q) + (2 ^ t - 1) := by rw [Nat.mul_add]; omega)
  apply Nat.eq_of_testBit_eq
  intro j; rw [Nat.testBit_and, pow_odd_bit, e, Nat.testBit_two_pow_mul_add _ (by omega), Nat.testBit_two_pow_mul]
  by_cases h : j < t
  · (have h1 : ¬ t ≤ j := by omega); (have h2 : ¬ t = j := by omega); (have h3 : ¬ t < j := by omega); simp [h1, h2, h3]
  · by_cases h2 : t = j
    · subst h2; simp
    · obtain ⟨i, hi⟩ : ∃ i, j - t = i + 1 := ⟨j - t - 1, by omega⟩; (have h1 : t ≤ j := by omega); (have h3 : t < j := by omega); (have a1 : (2 * q) / 2 = q := by omega); rw [hi, Nat.testBit_succ, a1]; simp [h1, h2, h3, h]
theorem next_bit {x m : Nat} (hx : x < 18446744073709551616) (h0 : hiBits x m ≠ 0) :
    m ≤ Lib.ctz 64 (hiBits x m) ∧ Lib.ctz 64 (hiBits x m) < 64 ∧ x.testBit (Lib.ctz 64 (hiBits x m)) = true ∧ (∀ j, m ≤ j → j < Lib.ctz 64 (hiBits x m) → x.testBit j = false) ∧
      hiBits x m &&& (hiBits x m - 1) = hiBits x (Lib.ctz 64 (hiBits x m) + 1) := by
  obtain ⟨q, hq, ht⟩ := low_bit h0 (Nat.lt_of_le_of_lt (hiBits_le x m) hx); generalize Lib.ctz 64 (hiBits x m) = t at hq ht; (have hb : ∀ j, (hiBits x m).testBit j = (decide (t = j) || (decide (t < j) && q.testBit (j - t - 1))) := fun j => by rw [hq]; exact pow_odd_bit t q j); (have h1 : (hiBits x m).testBit t = true := by rw [hb]; simp); rw [hiBits_bit] at h1; simp at h1; refine ⟨h1.1, ht, h1.2, ?_, ?_⟩
  · intro j hm hj; have := hb j; rw [hiBits_bit] at this; (have a1 : ¬ t = j := by omega); (have a2 : ¬ t < j := by omega); simp [hm, a1, a2] at this; exact this
  · rw [hq, clear_low]
    apply Nat.eq_of_testBit_eq
    intro j; rw [hiBits_bit, Nat.testBit_two_pow_mul]; have := hb j; rw [hiBits_bit] at this
    by_cases h : j ≤ t
    · (have a1 : ¬ t + 1 ≤ j := by omega)
      by_cases e : t = j
      · subst e; simp; omega
      · (have a2 : ¬ t ≤ j := by omega); simp [a1, a2]
    · (have a1 : t + 1 ≤ j := by omega); (have a2 : ¬ t = j := by omega); (have a3 : t < j := by omega); (have a4 : m ≤ j := by omega); (have a5 : t ≤ j := by omega); obtain ⟨i, hi⟩ : ∃ i, j - t = i + 1 := ⟨j - t - 1, by omega⟩; (have a6 : (2 * q) / 2 = q := by omega); (have a7 : j - t - 1 = i := by omega); rw [a7] at this; simp [a2, a3, a4] at this; rw [this, hi, Nat.testBit_succ, a6]; simp [a1, a5]
theorem no_bit {x m : Nat} (h0 : hiBits x m = 0) (j : Nat) (hm : m ≤ j) : x.testBit j = false := by
  have := hiBits_bit x m j; rw [h0] at this; simp [hm] at this; exact this
def upto (s : Ws) (k : Nat) : List Nat := (List.range k).filter s.has
theorem upto_succ (s : Ws) (k : Nat) : upto s (k + 1) = if s.has k = true then upto s k ++ [k] else upto s k := by
  unfold upto; rw [List.range_succ, List.filter_append]
  by_cases h : s.has k = true
  · simp [h]
  · simp [h]
theorem upto_skip (s : Ws) (k : Nat) : ∀ n, (∀ j, k ≤ j → j < k + n → s.has j = false) → upto s (k + n) = upto s k
  | 0, _ => rfl
  | n + 1, h => by
    have e := h (k + n) (by omega) (by omega); rw [← Nat.add_assoc, upto_succ, if_neg (by simp [e])]; exact upto_skip s k n fun j h1 h2 => h j h1 (by omega)
theorem has_word (s : Ws) (i j : Nat) (hj : j < 64) : s.has (64 * i + j) = (s.get i).testBit j := by
  unfold Ws.has; (have e1 : (64 * i + j) / 64 = i := by omega); (have e2 : (64 * i + j) % 64 = j := by omega); rw [e1, e2]
theorem upto_next (s : Ws) (i m t : Nat) (hm : m ≤ t) (ht : t < 64) (h1 : (s.get i).testBit t = true) (h : ∀ j, m ≤ j → j < t → (s.get i).testBit j = false) :
    upto s (64 * i + (t + 1)) = upto s (64 * i + m) ++ [64 * i + t] := by
  (have e : 64 * i + (t + 1) = (64 * i + t) + 1 := by omega); rw [e, upto_succ, has_word s i t ht, if_pos h1]; (have e2 : 64 * i + t = (64 * i + m) + (t - m) := by omega)
  have : upto s (64 * i + t) = upto s (64 * i + m) := by
    rw [e2]
    apply upto_skip
    intro j h2 h3; (have e3 : j = 64 * i + (j - 64 * i) := by omega); rw [e3, has_word s i _ (by omega)]; exact h _ (by omega) (by omega)
  rw [this]
theorem upto_end (s : Ws) (i m : Nat) (hm : m ≤ 64) (h : ∀ j, m ≤ j → (s.get i).testBit j = false) : upto s (64 * (i + 1)) = upto s (64 * i + m) := by
  (have e2 : 64 * (i + 1) = (64 * i + m) + (64 - m) := by omega); rw [e2]
  apply upto_skip
  intro j h2 h3; (have e3 : j = 64 * i + (j - 64 * i) := by omega); rw [e3, has_word s i _ (by omega)]; exact h _ (by omega)
theorem upto_length (s : Ws) (k : Nat) : (upto s k).length ≤ k := by
  have := List.length_filter_le s.has (List.range k)
  simpa [upto] using this
def u8s (l : List Nat) : List UInt8 := l.map UInt8.ofNat
theorem u8s_length (l : List Nat) : (u8s l).length = l.length := by simp [u8s]
theorem u8s_append (a b : List Nat) : u8s (a ++ b) = u8s a ++ u8s b := by simp [u8s]
end Go.Proofs.YthgghaaddankoaaGreatDoor
/- Lemmas of mine. -/
namespace Go.Proofs.YthgghaaddankoaaGreatDoor
def hexD' (n : Nat) : UInt8 := if n < 10 then UInt8.ofNat (48 + n) else UInt8.ofNat (87 + n)
def resL : List Nat := [92, 124, 42, 40, 41, 91, 93, 46, 45]
def specB (n : Nat) : Bool := decide (n < 33) || decide (126 < n) || resL.contains n
def signL (n : Nat) : List UInt8 := if specB n = true then [92, hexD' (n / 16), hexD' (n % 16)] else [UInt8.ofNat n]
def runFrom : Nat → List Nat → Nat
  | _, [] => 0
  | x, y :: l => if y = x + 1 then 1 + runFrom y l else 0
theorem runFrom_le (x : Nat) (l : List Nat) : runFrom x l ≤ l.length := by
  induction l generalizing x with
  | nil => simp [runFrom]
  | cons y t ih => unfold runFrom; split
                   · have := ih y; simp; omega
                   · simp
theorem runFrom_eq {x n : Nat} {l : List Nat} (h : ∀ j, j < n → l[j]? = some (x + 1 + j)) (h' : l[n]? ≠ some (x + 1 + n)) : runFrom x l = n := by
  induction l generalizing x n with
  | nil =>
    cases n with
    | zero => rfl
    | succ n => have := h 0 (by omega); simp at this
  | cons y t ih =>
    unfold runFrom
    cases n with
    | zero =>
      (have : ¬ y = x + 1 := by intro e; apply h'; simp [e]); rw [if_neg this]
    | succ n =>
      have h0 := h 0 (by omega); simp at h0; subst h0; rw [if_pos rfl, ih (x := x + 1) (n := n)]
      · omega
      · intro j hj; have := h (j + 1) (by omega); simp at this; rw [this]; congr 1; omega
      · intro e
        apply h'
        simp; rw [e]; congr 1; omega
theorem runFrom_take (x : Nat) (l : List Nat) : l.take (runFrom x l) = List.range' (x + 1) (runFrom x l) := by
  induction l generalizing x with
  | nil => simp [runFrom]
  | cons y t ih =>
    unfold runFrom
    split
    · rename_i e
      subst e; rw [Nat.add_comm 1, List.take_succ_cons, ih, List.range'_succ]
    · simp
def segL (x n : Nat) : List UInt8 := if 3 ≤ n then signL x ++ 45 :: signL (x + n - 1) else if n = 2 then signL x ++ signL (x + 1) else signL x
def runsL : Nat → List Nat → List UInt8
  | 0, _ => []
  | _ + 1, [] => []
  | f + 1, x :: l => segL x (1 + runFrom x l) ++ runsL f (l.drop (runFrom x l))
theorem runsL_fuel : ∀ (f g : Nat) (l : List Nat), l.length ≤ f → l.length ≤ g → runsL f l = runsL g l
  | 0, g, l, h, _ => by
    have : l = [] := List.eq_nil_of_length_eq_zero (by omega); subst this
    cases g <;> rfl
  | f + 1, 0, l, _, h => by
    have : l = [] := List.eq_nil_of_length_eq_zero (by omega); subst this
    rfl
  | f + 1, g + 1, [], _, _ => rfl
  | f + 1, g + 1, x :: l, h, h' => by
    simp at h h'; unfold runsL; rw [runsL_fuel f g (l.drop (runFrom x l)) (by simp; omega) (by simp; omega)]
def textOf (l : List Nat) : List UInt8 := runsL l.length l
theorem textOf_nil : textOf [] = [] := rfl
theorem textOf_cons (x : Nat) (l : List Nat) : textOf (x :: l) = segL x (1 + runFrom x l) ++ textOf (l.drop (runFrom x l)) := by
  unfold textOf; show runsL (l.length + 1) (x :: l) = _; rw [runsL, runsL_fuel l.length _ _ (by simp) (Nat.le_refl _)]
theorem signL_length (n : Nat) : (signL n).length ≤ 3 ∧ 0 < (signL n).length := by unfold signL; split <;> simp
theorem segL_length (x n : Nat) : (segL x n).length ≤ 7 := by
  have h1 := signL_length x; have h2 := signL_length (x + n - 1); have h3 := signL_length (x + 1); unfold segL
  split
  · simp; omega
  · split
    · simp; omega
    · omega
theorem runsL_length : ∀ (f : Nat) (l : List Nat), (runsL f l).length ≤ 7 * f
  | 0, _ => by simp [runsL]
  | _ + 1, [] => by simp [runsL]
  | f + 1, x :: l => by
    have := runsL_length f (l.drop (runFrom x l)); have h := segL_length x (1 + runFrom x l); simp [runsL]; omega
theorem textOf_length (l : List Nat) : (textOf l).length ≤ 7 * l.length := runsL_length _ l
def textW (s : Ws) : List UInt8 := if (bytesN s).length = 256 then [46] else if (bytesN s).length = 1 then signL ((bytesN s).headD 0) else 91 :: (textOf (bytesN s) ++ [93])
theorem full_of_length {s : Ws} (hs : s.Ok) : (bytesN s).length = 256 ↔ s = Ws.full := by
  constructor
  · intro h
    apply Ws.has_ext hs Ws.full_ok
    intro n hn; rw [Ws.has_full]; unfold bytesN at h; (have e : ((List.range 256).filter s.has).length = (List.range 256).length := by rw [h]; simp); have := List.length_filter_eq_length_iff.1 e n (by simp; omega); exact this
  · rintro rfl; have : (List.range 256).filter Ws.full.has = List.range 256 := List.filter_eq_self.2 fun n _ => Ws.has_full n; simp [bytesN, this]
def unhex (c : UInt8) : Nat := if c.toNat < 58 then c.toNat - 48 else c.toNat - 87
def readSign (t : List UInt8) : Nat × List UInt8 := if t.headD 0 = 92 then (unhex (t.getD 1 0) * 16 + unhex (t.getD 2 0), t.drop 3) else ((t.headD 0).toNat, t.drop 1)
theorem sign_fin : ∀ n : Fin 256, readSign (signL n.1) = (n.1, []) ∧ (signL n.1).headD 0 ≠ 45 ∧ (signL n.1).headD 0 ≠ 46 ∧ (signL n.1).headD 0 ≠ 91 := by decide +kernel
theorem readSign_sign (n : Nat) (h : n < 256) (r : List UInt8) : readSign (signL n ++ r) = (n, r) := by
  have f := (sign_fin ⟨n, h⟩).1; simp only at f; unfold signL at f ⊢
  split
  · rename_i e
    rw [if_pos e] at f; simp [readSign] at f ⊢; exact f
  · rename_i e
    rw [if_neg e] at f
    by_cases h92 : UInt8.ofNat n = 92
    · simp [readSign, h92] at f; simp [readSign, h92]
      have hn : n = 92 := by
        have := congrArg UInt8.toNat h92; simp at this; omega
      subst hn; exact absurd (by decide) e
    · simp [readSign, h92] at f ⊢; exact f
theorem sign_head (n : Nat) (h : n < 256) (r : List UInt8) : (signL n ++ r).headD 0 ≠ 45 ∧ (signL n ++ r).headD 0 ≠ 46 ∧ (signL n ++ r).headD 0 ≠ 91 := by
  have f := (sign_fin ⟨n, h⟩).2; simp only at f; unfold signL at f ⊢
  split
  · simp
  · rename_i e
    rw [if_neg e] at f
    simpa using f
def dec : Nat → List UInt8 → List Nat
  | 0, _ => []
  | f + 1, t => if t = [] then [] else if (readSign t).2.headD 0 = 45 then List.range' (readSign t).1 ((readSign (readSign t).2.tail).1 + 1 - (readSign t).1) ++ dec f (readSign (readSign t).2.tail).2 else (readSign t).1 :: dec f (readSign t).2
theorem dec_nil (f : Nat) : dec f [] = [] := by cases f <;> simp [dec]
theorem sign_ne (n : Nat) (r : List UInt8) : signL n ++ r ≠ [] := by unfold signL; split <;> simp
theorem dec_one (f n : Nat) (h : n < 256) (r : List UInt8) (hr : r.headD 0 ≠ 45) : dec (f + 1) (signL n ++ r) = n :: dec f r := by
  rw [dec, if_neg (sign_ne n r), readSign_sign n h r, if_neg hr]
theorem dec_run (f n m : Nat) (h : n < 256) (h' : m < 256) (r : List UInt8) : dec (f + 1) (signL n ++ 45 :: (signL m ++ r)) = List.range' n (m + 1 - n) ++ dec f r := by
  rw [dec, if_neg (sign_ne n _), readSign_sign n h]; simp only [List.headD_cons, if_true, List.tail_cons]; rw [readSign_sign m h']
theorem textOf_head (l : List Nat) (hl : ∀ x ∈ l, x < 256) : (textOf l).headD 0 ≠ 45 := by
  cases l with
  | nil => simp [textOf_nil]
  | cons x t =>
    have hx := hl x (List.mem_cons_self ..); rw [textOf_cons]; unfold segL
    split
    · rw [List.append_assoc]; exact (sign_head x hx _).1
    · split
      · rw [List.append_assoc]; exact (sign_head x hx _).1
      · exact (sign_head x hx _).1
theorem dec_textOf : ∀ (k f : Nat) (l : List Nat), l.length ≤ k → l.length ≤ f → (∀ x ∈ l, x < 256) → dec f (textOf l) = l
  | 0, f, l, h, _, _ => by
    have : l = [] := List.eq_nil_of_length_eq_zero (by omega); subst this; exact dec_nil f
  | k + 1, f, [], _, _, _ => dec_nil f
  | k + 1, f, x :: l, h, hf, hl => by
    have hx := hl x (List.mem_cons_self ..); simp at h hf; obtain ⟨f, rfl⟩ : ∃ g, f = g + 1 := ⟨f - 1, by omega⟩; have hle := runFrom_le x l; have htk := runFrom_take x l; have hrest : ∀ y ∈ l.drop (runFrom x l), y < 256 := fun y hy => hl y (List.mem_cons_of_mem _ (List.mem_of_mem_drop hy)); have hhd := textOf_head _ hrest
    have hsplit : x :: l = List.range' x (1 + runFrom x l) ++ l.drop (runFrom x l) := by
      rw [Nat.add_comm 1, List.range'_succ, ← htk, List.cons_append, List.take_append_drop]
    rw [textOf_cons]; generalize hn : runFrom x l = n at *; unfold segL
    by_cases h3 : 3 ≤ 1 + n
    · rw [if_pos h3]
      have hm : x + (1 + n) - 1 < 256 := by
        have : x + n ∈ l := by
          (have h1 : x + n ∈ l.take n := by rw [htk]; simp [List.mem_range'_1]; omega); exact List.mem_of_mem_take h1
        have := hl _ (List.mem_cons_of_mem _ this); omega
      rw [List.append_assoc, List.cons_append, dec_run f x _ hx hm, dec_textOf k f _ (by simp; omega) (by simp; omega) hrest]; (have e : x + (1 + n) - 1 + 1 - x = 1 + n := by omega); rw [e, ← hsplit]
    · rw [if_neg h3]
      by_cases h2 : 1 + n = 2
      · (obtain rfl : n = 1 := by omega); rw [if_pos rfl]
        have hx1 : x + 1 < 256 := by
          (have h1 : x + 1 ∈ l.take 1 := by rw [htk]; simp); exact hl _ (List.mem_cons_of_mem _ (List.mem_of_mem_take h1))
        obtain ⟨f, rfl⟩ : ∃ g, f = g + 1 := ⟨f - 1, by omega⟩; rw [List.append_assoc, dec_one _ x hx _ (sign_head _ hx1 _).1, dec_one _ _ hx1 _ hhd, dec_textOf k f _ (by simp; omega) (by simp; omega) hrest, hsplit]; simp [List.range'_succ]
      · (obtain rfl : n = 0 := by omega); rw [if_neg h2, dec_one _ x hx _ hhd, dec_textOf k f _ (by simp; omega) (by simp; omega) hrest]
        rfl
def decW (t : List UInt8) : List Nat := if t.headD 0 = 46 then List.range 256 else if t.headD 0 = 91 then dec 256 t.tail.dropLast else dec 256 t
theorem bytesN_lt (s : Ws) : ∀ x ∈ bytesN s, x < 256 := fun x hx => ((mem_bytesN s x).1 hx).1
theorem decW_textW {s : Ws} (hs : s.Ok) : decW (textW s) = bytesN s := by
  unfold textW
  split
  · rename_i h
    rw [full_of_length hs] at h; subst h; have : (List.range 256).filter Ws.full.has = List.range 256 := List.filter_eq_self.2 fun n _ => Ws.has_full n; simp [decW, bytesN, this]
  · split
    · rename_i h
      obtain ⟨x, hx⟩ := List.length_eq_one_iff.1 h; have hlt : x < 256 := bytesN_lt s x (by rw [hx]; simp); rw [hx]; simp only [List.headD_cons]; have h1 := sign_head x hlt []; rw [List.append_nil] at h1; unfold decW; rw [if_neg h1.2.1, if_neg h1.2.2]; have := dec_one 255 x hlt [] (by simp); rw [List.append_nil, dec_nil] at this; exact this
    · unfold decW; simp only [List.headD_cons, List.tail_cons, List.dropLast_concat]; rw [if_neg (by decide), if_pos trivial]; exact dec_textOf 256 256 _ (bytesN_length_le s) (bytesN_length_le s) (bytesN_lt s)
theorem textW_inj {s t : Ws} (hs : s.Ok) (ht : t.Ok) (h : textW s = textW t) : s = t := by
  apply bytesN_inj hs ht
  rw [← decW_textW hs, ← decW_textW ht, h]
theorem textW_length (s : Ws) : (textW s).length ≤ 2000 := by
  have h1 := textOf_length (bytesN s); have h2 := bytesN_length_le s; have h3 := signL_length ((bytesN s).headD 0); unfold textW
  split
  · simp
  · split
    · omega
    · simp; omega
end Go.Proofs.YthgghaaddankoaaGreatDoor
