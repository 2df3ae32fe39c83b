/- Sets of bytes as four words: plain mathematics, of no program. -/
import Derived.Lib.TrailingZeros
namespace Go.Proofs.YtdkdgbiagjflgaaDoor
structure Ws where
  a : Nat
  b : Nat
  c : Nat
  d : Nat
def Ws.Ok (s : Ws) : Prop := s.a < 18446744073709551616 ∧ s.b < 18446744073709551616 ∧ s.c < 18446744073709551616 ∧ s.d < 18446744073709551616
def Ws.get (s : Ws) (i : Nat) : Nat := if i = 0 then s.a else if i = 1 then s.b else if i = 2 then s.c else s.d
def Ws.put (s : Ws) (i x : Nat) : Ws := if i = 0 then ⟨x, s.b, s.c, s.d⟩ else if i = 1 then ⟨s.a, x, s.c, s.d⟩ else if i = 2 then ⟨s.a, s.b, x, s.d⟩ else ⟨s.a, s.b, s.c, x⟩
def Ws.has (s : Ws) (n : Nat) : Bool := (s.get (n / 64)).testBit (n % 64)
def Ws.ins (s : Ws) (n : Nat) : Ws := s.put (n / 64) (s.get (n / 64) ||| 2 ^ (n % 64))
def Ws.nil : Ws := ⟨0, 0, 0, 0⟩
def Ws.full : Ws := ⟨18446744073709551615, 18446744073709551615, 18446744073709551615, 18446744073709551615⟩
theorem Ws.nil_ok : Ws.nil.Ok := by simp [Ws.Ok, Ws.nil]
theorem Ws.full_ok : Ws.full.Ok := by simp [Ws.Ok, Ws.full]
theorem word_ext {x y : Nat} (hx : x < 18446744073709551616) (hy : y < 18446744073709551616) (h : ∀ i, i < 64 → x.testBit i = y.testBit i) : x = y := by
  apply Nat.eq_of_testBit_eq
  intro i
  by_cases hi : i < 64
  · exact h i hi
  · have e : (18446744073709551616 : Nat) = 2 ^ 64 := rfl
    have hp : 2 ^ 64 ≤ 2 ^ i := Nat.pow_le_pow_right (by decide) (by omega)
    rw [Nat.testBit_lt_two_pow (by omega), Nat.testBit_lt_two_pow (by omega)]
theorem Ws.get_lt {s : Ws} (h : s.Ok) (i : Nat) : s.get i < 18446744073709551616 := by
  obtain ⟨h0, h1, h2, h3⟩ := h
  unfold Ws.get
  split
  · exact h0
  · split
    · exact h1
    · split
      · exact h2
      · exact h3
theorem Ws.get_ext {s t : Ws} (h : ∀ i, i < 4 → s.get i = t.get i) : s = t := by
  have h0 := h 0 (by decide)
  have h1 := h 1 (by decide)
  have h2 := h 2 (by decide)
  have h3 := h 3 (by decide)
  obtain ⟨a, b, c, d⟩ := s
  obtain ⟨a', b', c', d'⟩ := t
  simp [Ws.get] at h0 h1 h2 h3
  simp [h0, h1, h2, h3]
theorem Ws.has_ext {s t : Ws} (hs : s.Ok) (ht : t.Ok) (h : ∀ n, n < 256 → s.has n = t.has n) : s = t := by
  apply Ws.get_ext
  intro i hi
  apply word_ext (Ws.get_lt hs i) (Ws.get_lt ht i)
  intro j hj
  have := h (64 * i + j) (by omega)
  unfold Ws.has at this
  have e1 : (64 * i + j) / 64 = i := by omega
  have e2 : (64 * i + j) % 64 = j := by omega
  rwa [e1, e2] at this
theorem Ws.get_put (s : Ws) (i j x : Nat) (hi : i < 4) (hj : j < 4) : (s.put i x).get j = if i = j then x else s.get j := by
  have hi' : i = 0 ∨ i = 1 ∨ i = 2 ∨ i = 3 := by omega
  have hj' : j = 0 ∨ j = 1 ∨ j = 2 ∨ j = 3 := by omega
  rcases hi' with rfl | rfl | rfl | rfl <;> rcases hj' with rfl | rfl | rfl | rfl <;> simp [Ws.put, Ws.get]
theorem Ws.put_ok {s : Ws} (h : s.Ok) (i x : Nat) (hx : x < 18446744073709551616) : (s.put i x).Ok := by
  obtain ⟨h0, h1, h2, h3⟩ := h
  unfold Ws.put
  split
  · exact ⟨hx, h1, h2, h3⟩
  · split
    · exact ⟨h0, hx, h2, h3⟩
    · split
      · exact ⟨h0, h1, hx, h3⟩
      · exact ⟨h0, h1, h2, hx⟩
theorem or_lt {x y : Nat} (hx : x < 18446744073709551616) (hy : y < 18446744073709551616) : x ||| y < 18446744073709551616 := Nat.or_lt_two_pow (n := 64) hx hy
theorem pow_lt64 (n : Nat) : 2 ^ (n % 64) < 18446744073709551616 := by
  have e : (18446744073709551616 : Nat) = 2 ^ 64 := rfl
  rw [e]; exact Nat.pow_lt_pow_right (by decide) (by omega)
theorem Ws.ins_ok {s : Ws} (h : s.Ok) (n : Nat) : (s.ins n).Ok := Ws.put_ok h _ _ (or_lt (Ws.get_lt h _) (pow_lt64 n))
theorem Ws.has_ins (s : Ws) (n m : Nat) (hn : n < 256) (hm : m < 256) : (s.ins n).has m = (s.has m || decide (n = m)) := by
  unfold Ws.has Ws.ins
  rw [Ws.get_put _ _ _ _ (by omega) (by omega)]
  split
  · rename_i e
    rw [Nat.testBit_or, Nat.testBit_two_pow, e]
    congr 1
    rw [decide_eq_decide]; omega
  · have : decide (n = m) = false := by simp; rintro rfl; contradiction
    rw [this, Bool.or_false]
theorem Ws.has_nil (n : Nat) : Ws.nil.has n = false := by
  have : Ws.nil.get (n / 64) = 0 := by unfold Ws.get Ws.nil; repeat' split
                                       all_goals rfl
  simp [Ws.has, this]
theorem Ws.has_full (n : Nat) : Ws.full.has n = true := by
  have : Ws.full.get (n / 64) = 2 ^ 64 - 1 := by unfold Ws.get Ws.full; repeat' split
                                                 all_goals rfl
  unfold Ws.has
  rw [this, Nat.testBit_two_pow_sub_one]
  simp; omega
/-- A byte that is there already: nothing turns. -/
theorem Ws.ins_has {s : Ws} (h : s.Ok) {n : Nat} (hn : n < 256) (hh : s.has n = true) : s.ins n = s := by
  apply Ws.has_ext (Ws.ins_ok h n) h
  intro m hm
  rw [Ws.has_ins _ _ _ hn hm]
  by_cases e : n = m
  · subst e; simp [hh]
  · simp [e]
/-- A bit that isn't there is added, or put in: the same. -/
theorem add_bit {x k : Nat} (h : x.testBit k = false) : x + 2 ^ k = x ||| 2 ^ k := by
  have e := Nat.div_add_mod x (2 ^ (k + 1))
  have hp : 0 < 2 ^ k := Nat.two_pow_pos k
  have h2 : x / 2 ^ k % 2 = 0 := by
    rw [Nat.testBit_eq_decide_div_mod_eq] at h
    simp at h
    omega
  have hlt : x % 2 ^ k < 2 ^ k := Nat.mod_lt _ hp
  have d := Nat.div_add_mod x (2 ^ k)
  -- x = 2^k * q + r, q even
  have hq := Nat.div_add_mod (x / 2 ^ k) 2
  rw [h2] at hq
  have hx : x = 2 ^ k * (2 * (x / 2 ^ k / 2)) + x % 2 ^ k := by
    have : 2 * (x / 2 ^ k / 2) = x / 2 ^ k := by omega
    rw [this]; omega
  generalize x / 2 ^ k / 2 = q at hx
  generalize x % 2 ^ k = r at hx hlt
  subst hx
  apply Nat.eq_of_testBit_eq
  intro i
  have e1 : 2 ^ k * (2 * q) + r + 2 ^ k = 2 ^ k * (2 * q + 1) + r := by rw [Nat.mul_add]; omega
  rw [e1, Nat.testBit_or, Nat.testBit_two_pow, Nat.testBit_two_pow_mul_add _ hlt, Nat.testBit_two_pow_mul_add _ hlt]
  by_cases hi : i < k
  · simp [hi]; omega
  · simp only [hi, if_false]
    by_cases hk : i = k
    · subst hk; simp
    · obtain ⟨j, hj⟩ : ∃ j, i - k = j + 1 := ⟨i - k - 1, by omega⟩
      have hk' : ¬ k = i := fun e => hk e.symm
      rw [hj, Nat.testBit_succ, Nat.testBit_succ]
      simp [hk']
      have a1 : (2 * q + 1) / 2 = q := by omega
      rw [a1]
/-- Of bytes; of a range. -/
def ofN (l : List Nat) : Ws := l.foldl Ws.ins Ws.nil
theorem foldl_ok {s : Ws} (h : s.Ok) (l : List Nat) : (l.foldl Ws.ins s).Ok := by
  induction l generalizing s with
  | nil => exact h
  | cons x t ih => exact ih (Ws.ins_ok h x)
theorem ofN_ok (l : List Nat) : (ofN l).Ok := foldl_ok Ws.nil_ok l
theorem ofN_snoc (l : List Nat) (x : Nat) : ofN (l ++ [x]) = (ofN l).ins x := by simp [ofN]
theorem has_foldl (l : List Nat) (s : Ws) (hl : ∀ x ∈ l, x < 256) (m : Nat) (hm : m < 256) : (l.foldl Ws.ins s).has m = (s.has m || l.contains m) := by
  induction l generalizing s with
  | nil => simp
  | cons x t ih =>
    rw [List.foldl_cons, ih _ (fun y hy => hl y (List.mem_cons_of_mem _ hy)), Ws.has_ins _ _ _ (hl x (List.mem_cons_self ..)) hm, List.contains_cons, Bool.or_assoc]
    congr 2
    rw [Bool.eq_iff_iff]; simp; exact eq_comm
theorem has_ofN (l : List Nat) (hl : ∀ x ∈ l, x < 256) (m : Nat) (hm : m < 256) : (ofN l).has m = l.contains m := by
  rw [ofN, has_foldl l _ hl m hm, Ws.has_nil, Bool.false_or]
def Ws.join (s t : Ws) : Ws := ⟨s.a ||| t.a, s.b ||| t.b, s.c ||| t.c, s.d ||| t.d⟩
def Ws.meet (s t : Ws) : Ws := ⟨s.a &&& t.a, s.b &&& t.b, s.c &&& t.c, s.d &&& t.d⟩
def Ws.less (s t : Ws) : Ws := ⟨s.a &&& (18446744073709551615 - t.a), s.b &&& (18446744073709551615 - t.b), s.c &&& (18446744073709551615 - t.c), s.d &&& (18446744073709551615 - t.d)⟩
theorem Ws.join_ok {s t : Ws} (h : s.Ok) (h' : t.Ok) : (s.join t).Ok := ⟨or_lt h.1 h'.1, or_lt h.2.1 h'.2.1, or_lt h.2.2.1 h'.2.2.1, or_lt h.2.2.2 h'.2.2.2⟩
theorem and_lt {x : Nat} (y : Nat) (hx : x < 18446744073709551616) : x &&& y < 18446744073709551616 := Nat.lt_of_le_of_lt Nat.and_le_left hx
theorem Ws.meet_ok {s : Ws} (h : s.Ok) (t : Ws) : (s.meet t).Ok := ⟨and_lt _ h.1, and_lt _ h.2.1, and_lt _ h.2.2.1, and_lt _ h.2.2.2⟩
theorem Ws.less_ok {s : Ws} (h : s.Ok) (t : Ws) : (s.less t).Ok := ⟨and_lt _ h.1, and_lt _ h.2.1, and_lt _ h.2.2.1, and_lt _ h.2.2.2⟩
theorem Ws.get_join (s t : Ws) (i : Nat) : (s.join t).get i = s.get i ||| t.get i := by
  unfold Ws.get Ws.join; repeat' split
  all_goals rfl
theorem Ws.get_meet (s t : Ws) (i : Nat) : (s.meet t).get i = s.get i &&& t.get i := by
  unfold Ws.get Ws.meet; repeat' split
  all_goals rfl
theorem Ws.get_less (s t : Ws) (i : Nat) : (s.less t).get i = s.get i &&& (18446744073709551615 - t.get i) := by
  unfold Ws.get Ws.less; repeat' split
  all_goals rfl
theorem Ws.has_join (s t : Ws) (n : Nat) : (s.join t).has n = (s.has n || t.has n) := by simp [Ws.has, Ws.get_join]
theorem Ws.has_meet (s t : Ws) (n : Nat) : (s.meet t).has n = (s.has n && t.has n) := by simp [Ws.has, Ws.get_meet]
theorem Ws.has_less (s t : Ws) (ht : t.Ok) (n : Nat) : (s.less t).has n = (s.has n && !t.has n) := by
  unfold Ws.has
  rw [Ws.get_less, Nat.testBit_and]
  have h := Ws.get_lt ht (n / 64)
  have e : 18446744073709551615 - t.get (n / 64) = 2 ^ 64 - (t.get (n / 64) + 1) := by omega
  rw [e, Nat.testBit_two_pow_sub_succ (by omega)]
  have : decide (n % 64 < 64) = true := by simp; omega
  rw [this, Bool.true_and]
/-- The bytes, rising. -/
def bytesN (s : Ws) : List Nat := (List.range 256).filter s.has
theorem mem_bytesN (s : Ws) (n : Nat) : n ∈ bytesN s ↔ n < 256 ∧ s.has n = true := by simp [bytesN]
theorem bytesN_inj {s t : Ws} (hs : s.Ok) (ht : t.Ok) (h : bytesN s = bytesN t) : s = t := by
  apply Ws.has_ext hs ht
  intro n hn
  rw [Bool.eq_iff_iff]
  have := mem_bytesN s n
  rw [h, mem_bytesN] at this
  constructor
  · intro h1; exact (this.2 ⟨hn, h1⟩).2
  · intro h1; exact (this.1 ⟨hn, h1⟩).2
theorem of_bytesN {s : Ws} (hs : s.Ok) : ofN (bytesN s) = s := by
  apply Ws.has_ext (ofN_ok _) hs
  intro n hn
  rw [has_ofN _ (fun x hx => ((mem_bytesN s x).1 hx).1) n hn, Bool.eq_iff_iff, List.contains_iff_mem, mem_bytesN]
  simp [hn]
theorem bytesN_length_le (s : Ws) : (bytesN s).length ≤ 256 := by
  have := List.length_filter_le s.has (List.range 256)
  simpa [bytesN] using this
/-- Order: by words, as numbers, the first where they differ. -/
def cmpN (x y : Nat) : Int := if x < y then -1 else if y < x then 1 else 0
def ordW (s t : Ws) : Int := if s.a ≠ t.a then cmpN s.a t.a else if s.b ≠ t.b then cmpN s.b t.b else if s.c ≠ t.c then cmpN s.c t.c else cmpN s.d t.d
theorem cmpN_neg (x y : Nat) : cmpN y x = - cmpN x y := by unfold cmpN; repeat' split
                                                           all_goals omega
theorem ordW_neg (s t : Ws) : ordW t s = - ordW s t := by
  unfold ordW
  simp only [cmpN_neg s.a t.a, cmpN_neg s.b t.b, cmpN_neg s.c t.c, cmpN_neg s.d t.d, ne_comm (a := t.a), ne_comm (a := t.b), ne_comm (a := t.c)]
  repeat' split
  all_goals rfl
theorem cmpN_zero {x y : Nat} : cmpN x y = 0 ↔ x = y := by
  unfold cmpN
  repeat' split
  all_goals omega
theorem ordW_zero (s t : Ws) : ordW s t = 0 ↔ s = t := by
  obtain ⟨a, b, c, d⟩ := s
  obtain ⟨a', b', c', d'⟩ := t
  unfold ordW
  simp only [Ws.mk.injEq]
  by_cases h1 : a = a'
  · by_cases h2 : b = b'
    · by_cases h3 : c = c'
      · simp [h1, h2, h3, cmpN_zero]
      · simp [h1, h2, h3, cmpN_zero]
    · simp [h1, h2, cmpN_zero]
  · simp [h1, cmpN_zero]
end Go.Proofs.YtdkdgbiagjflgaaDoor
