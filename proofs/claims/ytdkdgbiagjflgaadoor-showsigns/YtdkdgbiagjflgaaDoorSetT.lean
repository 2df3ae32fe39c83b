/- The text of a set: plain mathematics, and that unlike sets have unlike texts. -/
import Derived.Test.YtdkdgbiagjflgaaDoorSetN
namespace Go.Proofs.YtdkdgbiagjflgaaDoor
def hexD' (n : Nat) : UInt8 := if n < 10 then UInt8.ofNat (48 + n) else UInt8.ofNat (87 + n)
def resL : List Nat := [92, 124, 42, 40, 41, 91, 93, 46, 45]
def specB (n : Nat) : Bool := decide (n < 33) || decide (126 < n) || resL.contains n
def signL (n : Nat) : List UInt8 := if specB n = true then [92, hexD' (n / 16), hexD' (n % 16)] else [UInt8.ofNat n]
/-- How many of these follow on x without a gap. -/
def runFrom : Nat → List Nat → Nat
  | _, [] => 0
  | x, y :: l => if y = x + 1 then 1 + runFrom y l else 0
theorem runFrom_le (x : Nat) (l : List Nat) : runFrom x l ≤ l.length := by
  induction l generalizing x with
  | nil => simp [runFrom]
  | cons y t ih => unfold runFrom; split
                   · have := ih y; simp; omega
                   · simp
theorem runFrom_eq {x n : Nat} {l : List Nat} (h : ∀ j, j < n → l[j]? = some (x + 1 + j)) (h' : l[n]? ≠ some (x + 1 + n)) : runFrom x l = n := by
  induction l generalizing x n with
  | nil =>
    cases n with
    | zero => rfl
    | succ n => have := h 0 (by omega); simp at this
  | cons y t ih =>
    unfold runFrom
    cases n with
    | zero =>
      have : ¬ y = x + 1 := by intro e; apply h'; simp [e]
      rw [if_neg this]
    | succ n =>
      have h0 := h 0 (by omega)
      simp at h0
      subst h0
      rw [if_pos rfl, ih (x := x + 1) (n := n)]
      · omega
      · intro j hj
        have := h (j + 1) (by omega)
        simp at this
        rw [this]; congr 1; omega
      · intro e
        apply h'
        simp
        rw [e]; congr 1; omega
theorem runFrom_take (x : Nat) (l : List Nat) : l.take (runFrom x l) = List.range' (x + 1) (runFrom x l) := by
  induction l generalizing x with
  | nil => simp [runFrom]
  | cons y t ih =>
    unfold runFrom
    split
    · rename_i e
      subst e
      rw [Nat.add_comm 1, List.take_succ_cons, ih, List.range'_succ]
    · simp
def segL (x n : Nat) : List UInt8 := if 3 ≤ n then signL x ++ 45 :: signL (x + n - 1) else if n = 2 then signL x ++ signL (x + 1) else signL x
def runsL : Nat → List Nat → List UInt8
  | 0, _ => []
  | _ + 1, [] => []
  | f + 1, x :: l => segL x (1 + runFrom x l) ++ runsL f (l.drop (runFrom x l))
theorem runsL_fuel : ∀ (f g : Nat) (l : List Nat), l.length ≤ f → l.length ≤ g → runsL f l = runsL g l
  | 0, g, l, h, _ => by
    have : l = [] := List.eq_nil_of_length_eq_zero (by omega)
    subst this
    cases g <;> rfl
  | f + 1, 0, l, _, h => by
    have : l = [] := List.eq_nil_of_length_eq_zero (by omega)
    subst this
    rfl
  | f + 1, g + 1, [], _, _ => rfl
  | f + 1, g + 1, x :: l, h, h' => by
    simp at h h'
    unfold runsL
    rw [runsL_fuel f g (l.drop (runFrom x l)) (by simp; omega) (by simp; omega)]
def textOf (l : List Nat) : List UInt8 := runsL l.length l
theorem textOf_nil : textOf [] = [] := rfl
theorem textOf_cons (x : Nat) (l : List Nat) : textOf (x :: l) = segL x (1 + runFrom x l) ++ textOf (l.drop (runFrom x l)) := by
  unfold textOf
  show runsL (l.length + 1) (x :: l) = _
  rw [runsL, runsL_fuel l.length _ _ (by simp) (Nat.le_refl _)]
theorem signL_length (n : Nat) : (signL n).length ≤ 3 ∧ 0 < (signL n).length := by unfold signL; split <;> simp
theorem segL_length (x n : Nat) : (segL x n).length ≤ 7 := by
  have h1 := signL_length x
  have h2 := signL_length (x + n - 1)
  have h3 := signL_length (x + 1)
  unfold segL
  split
  · simp; omega
  · split
    · simp; omega
    · omega
theorem runsL_length : ∀ (f : Nat) (l : List Nat), (runsL f l).length ≤ 7 * f
  | 0, _ => by simp [runsL]
  | _ + 1, [] => by simp [runsL]
  | f + 1, x :: l => by
    have := runsL_length f (l.drop (runFrom x l))
    have h := segL_length x (1 + runFrom x l)
    simp [runsL]; omega
theorem textOf_length (l : List Nat) : (textOf l).length ≤ 7 * l.length := runsL_length _ l
/-- The text of a set. -/
def textW (s : Ws) : List UInt8 := if (bytesN s).length = 256 then [46] else if (bytesN s).length = 1 then signL ((bytesN s).headD 0) else 91 :: (textOf (bytesN s) ++ [93])
theorem full_of_length {s : Ws} (hs : s.Ok) : (bytesN s).length = 256 ↔ s = Ws.full := by
  constructor
  · intro h
    apply Ws.has_ext hs Ws.full_ok
    intro n hn
    rw [Ws.has_full]
    unfold bytesN at h
    have e : ((List.range 256).filter s.has).length = (List.range 256).length := by rw [h]; simp
    have := List.length_filter_eq_length_iff.1 e n (by simp; omega)
    exact this
  · rintro rfl
    have : (List.range 256).filter Ws.full.has = List.range 256 := List.filter_eq_self.2 fun n _ => Ws.has_full n
    simp [bytesN, this]
/-- Reading a sign. -/
def unhex (c : UInt8) : Nat := if c.toNat < 58 then c.toNat - 48 else c.toNat - 87
def readSign (t : List UInt8) : Nat × List UInt8 := if t.headD 0 = 92 then (unhex (t.getD 1 0) * 16 + unhex (t.getD 2 0), t.drop 3) else ((t.headD 0).toNat, t.drop 1)
theorem sign_fin : ∀ n : Fin 256, readSign (signL n.1) = (n.1, []) ∧ (signL n.1).headD 0 ≠ 45 ∧ (signL n.1).headD 0 ≠ 46 ∧ (signL n.1).headD 0 ≠ 91 := by decide +kernel
theorem readSign_sign (n : Nat) (h : n < 256) (r : List UInt8) : readSign (signL n ++ r) = (n, r) := by
  have f := (sign_fin ⟨n, h⟩).1
  simp only at f
  unfold signL at f ⊢
  split
  · rename_i e
    rw [if_pos e] at f
    simp [readSign] at f ⊢
    exact f
  · rename_i e
    rw [if_neg e] at f
    by_cases h92 : UInt8.ofNat n = 92
    · simp [readSign, h92] at f
      simp [readSign, h92]
      have hn : n = 92 := by
        have := congrArg UInt8.toNat h92
        simp at this; omega
      subst hn
      exact absurd (by decide) e
    · simp [readSign, h92] at f ⊢
      exact f
theorem sign_head (n : Nat) (h : n < 256) (r : List UInt8) : (signL n ++ r).headD 0 ≠ 45 ∧ (signL n ++ r).headD 0 ≠ 46 ∧ (signL n ++ r).headD 0 ≠ 91 := by
  have f := (sign_fin ⟨n, h⟩).2
  simp only at f
  unfold signL at f ⊢
  split
  · simp
  · rename_i e
    rw [if_neg e] at f
    simpa using f
def dec : Nat → List UInt8 → List Nat
  | 0, _ => []
  | f + 1, t => if t = [] then [] else if (readSign t).2.headD 0 = 45 then List.range' (readSign t).1 ((readSign (readSign t).2.tail).1 + 1 - (readSign t).1) ++ dec f (readSign (readSign t).2.tail).2 else (readSign t).1 :: dec f (readSign t).2
theorem dec_nil (f : Nat) : dec f [] = [] := by cases f <;> simp [dec]
theorem sign_ne (n : Nat) (r : List UInt8) : signL n ++ r ≠ [] := by unfold signL; split <;> simp
theorem dec_one (f n : Nat) (h : n < 256) (r : List UInt8) (hr : r.headD 0 ≠ 45) : dec (f + 1) (signL n ++ r) = n :: dec f r := by
  rw [dec, if_neg (sign_ne n r), readSign_sign n h r, if_neg hr]
theorem dec_run (f n m : Nat) (h : n < 256) (h' : m < 256) (r : List UInt8) : dec (f + 1) (signL n ++ 45 :: (signL m ++ r)) = List.range' n (m + 1 - n) ++ dec f r := by
  rw [dec, if_neg (sign_ne n _), readSign_sign n h]
  simp only [List.headD_cons, if_true, List.tail_cons]
  rw [readSign_sign m h']
theorem textOf_head (l : List Nat) (hl : ∀ x ∈ l, x < 256) : (textOf l).headD 0 ≠ 45 := by
  cases l with
  | nil => simp [textOf_nil]
  | cons x t =>
    have hx := hl x (List.mem_cons_self ..)
    rw [textOf_cons]
    unfold segL
    split
    · rw [List.append_assoc]; exact (sign_head x hx _).1
    · split
      · rw [List.append_assoc]; exact (sign_head x hx _).1
      · exact (sign_head x hx _).1
theorem dec_textOf : ∀ (k f : Nat) (l : List Nat), l.length ≤ k → l.length ≤ f → (∀ x ∈ l, x < 256) → dec f (textOf l) = l
  | 0, f, l, h, _, _ => by
    have : l = [] := List.eq_nil_of_length_eq_zero (by omega)
    subst this
    exact dec_nil f
  | k + 1, f, [], _, _, _ => dec_nil f
  | k + 1, f, x :: l, h, hf, hl => by
    have hx := hl x (List.mem_cons_self ..)
    simp at h hf
    obtain ⟨f, rfl⟩ : ∃ g, f = g + 1 := ⟨f - 1, by omega⟩
    have hle := runFrom_le x l
    have htk := runFrom_take x l
    have hrest : ∀ y ∈ l.drop (runFrom x l), y < 256 := fun y hy => hl y (List.mem_cons_of_mem _ (List.mem_of_mem_drop hy))
    have hhd := textOf_head _ hrest
    have hsplit : x :: l = List.range' x (1 + runFrom x l) ++ l.drop (runFrom x l) := by
      rw [Nat.add_comm 1, List.range'_succ, ← htk, List.cons_append, List.take_append_drop]
    rw [textOf_cons]
    generalize hn : runFrom x l = n at *
    unfold segL
    by_cases h3 : 3 ≤ 1 + n
    · rw [if_pos h3]
      have hm : x + (1 + n) - 1 < 256 := by
        have : x + n ∈ l := by
          have h1 : x + n ∈ l.take n := by rw [htk]; simp [List.mem_range'_1]; omega
          exact List.mem_of_mem_take h1
        have := hl _ (List.mem_cons_of_mem _ this)
        omega
      rw [List.append_assoc, List.cons_append, dec_run f x _ hx hm, dec_textOf k f _ (by simp; omega) (by simp; omega) hrest]
      have e : x + (1 + n) - 1 + 1 - x = 1 + n := by omega
      rw [e, ← hsplit]
    · rw [if_neg h3]
      by_cases h2 : 1 + n = 2
      · obtain rfl : n = 1 := by omega
        rw [if_pos rfl]
        have hx1 : x + 1 < 256 := by
          have h1 : x + 1 ∈ l.take 1 := by rw [htk]; simp
          exact hl _ (List.mem_cons_of_mem _ (List.mem_of_mem_take h1))
        obtain ⟨f, rfl⟩ : ∃ g, f = g + 1 := ⟨f - 1, by omega⟩
        rw [List.append_assoc, dec_one _ x hx _ (sign_head _ hx1 _).1, dec_one _ _ hx1 _ hhd, dec_textOf k f _ (by simp; omega) (by simp; omega) hrest, hsplit]
        simp [List.range'_succ]
      · obtain rfl : n = 0 := by omega
        rw [if_neg h2, dec_one _ x hx _ hhd, dec_textOf k f _ (by simp; omega) (by simp; omega) hrest]
        rfl
def decW (t : List UInt8) : List Nat := if t.headD 0 = 46 then List.range 256 else if t.headD 0 = 91 then dec 256 t.tail.dropLast else dec 256 t
theorem bytesN_lt (s : Ws) : ∀ x ∈ bytesN s, x < 256 := fun x hx => ((mem_bytesN s x).1 hx).1
theorem decW_textW {s : Ws} (hs : s.Ok) : decW (textW s) = bytesN s := by
  unfold textW
  split
  · rename_i h
    rw [full_of_length hs] at h
    subst h
    have : (List.range 256).filter Ws.full.has = List.range 256 := List.filter_eq_self.2 fun n _ => Ws.has_full n
    simp [decW, bytesN, this]
  · split
    · rename_i h
      obtain ⟨x, hx⟩ := List.length_eq_one_iff.1 h
      have hlt : x < 256 := bytesN_lt s x (by rw [hx]; simp)
      rw [hx]
      simp only [List.headD_cons]
      have h1 := sign_head x hlt []
      rw [List.append_nil] at h1
      unfold decW
      rw [if_neg h1.2.1, if_neg h1.2.2]
      have := dec_one 255 x hlt [] (by simp)
      rw [List.append_nil, dec_nil] at this
      exact this
    · unfold decW
      simp only [List.headD_cons, List.tail_cons, List.dropLast_concat]
      rw [if_neg (by decide), if_pos trivial]
      exact dec_textOf 256 256 _ (bytesN_length_le s) (bytesN_length_le s) (bytesN_lt s)
theorem textW_inj {s t : Ws} (hs : s.Ok) (ht : t.Ok) (h : textW s = textW t) : s = t := by
  apply bytesN_inj hs ht
  rw [← decW_textW hs, ← decW_textW ht, h]
theorem textW_length (s : Ws) : (textW s).length ≤ 2000 := by
  have h1 := textOf_length (bytesN s)
  have h2 := bytesN_length_le s
  have h3 := signL_length ((bytesN s).headD 0)
  unfold textW
  split
  · simp
  · split
    · omega
    · simp; omega
/-- A set's bytes from one on. -/
def fromB (s : Ws) (b : Nat) : List Nat := (List.range' b (256 - b)).filter s.has
theorem fromB_zero (s : Ws) : fromB s 0 = bytesN s := by simp [fromB, bytesN, List.range_eq_range']
theorem fromB_end (s : Ws) : fromB s 256 = [] := by simp [fromB]
theorem fromB_no {s : Ws} {b : Nat} (hb : b < 256) (h : s.has b = false) : fromB s b = fromB s (b + 1) := by
  unfold fromB
  obtain ⟨k, hk⟩ : ∃ k, 256 - b = k + 1 := ⟨255 - b, by omega⟩
  have : 256 - (b + 1) = k := by omega
  rw [hk, this, List.range'_succ, List.filter_cons_of_neg (by simp [h])]
theorem fromB_yes {s : Ws} {b : Nat} (hb : b < 256) (h : s.has b = true) : fromB s b = b :: fromB s (b + 1) := by
  unfold fromB
  obtain ⟨k, hk⟩ : ∃ k, 256 - b = k + 1 := ⟨255 - b, by omega⟩
  have : 256 - (b + 1) = k := by omega
  rw [hk, this, List.range'_succ, List.filter_cons_of_pos h]
theorem fromB_run {s : Ws} {b : Nat} : ∀ n, b + n ≤ 256 → (∀ j, j < n → s.has (b + j) = true) → fromB s b = List.range' b n ++ fromB s (b + n)
  | 0, _, _ => by simp
  | n + 1, hb, h => by
    rw [fromB_run n (by omega) fun j hj => h j (by omega), fromB_yes (b := b + n) (by omega) (h n (by omega)), List.range'_concat]
    simp [Nat.add_assoc]
theorem fromB_ge (s : Ws) (b : Nat) : ∀ x ∈ fromB s b, b ≤ x := by
  intro x hx
  simp [fromB] at hx
  omega
/-- One run of a set, from its first byte on. -/
theorem text_run {s : Ws} {b n : Nat} (hb : b + n < 256) (h : ∀ j, j ≤ n → s.has (b + j) = true) (h' : b + n + 1 < 256 → s.has (b + n + 1) = false) :
    textOf (fromB s b) = segL b (1 + n) ++ textOf (fromB s (b + n + 1)) := by
  have e := fromB_run (s := s) (b := b) (n + 1) (by omega) fun j hj => h j (by omega)
  rw [e, List.range'_succ, List.cons_append, textOf_cons]
  have hr : runFrom b (List.range' (b + 1) n ++ fromB s (b + (n + 1))) = n := by
    apply runFrom_eq
    · intro j hj
      rw [List.getElem?_append_left (by simpa using hj), List.getElem?_range' hj]
      simp
    · rw [List.getElem?_append_right (by simp)]
      intro hh
      have hm := List.mem_of_getElem? hh
      have hlt : b + 1 + n < 256 := by
        simp [fromB] at hm; omega
      have e2 : b + (n + 1) = b + n + 1 := by omega
      rw [e2] at hm
      simp [fromB] at hm
      have := h' (by omega)
      have e3 : b + 1 + n = b + n + 1 := by omega
      rw [e3, this] at hm
      simp at hm
  rw [hr]
  congr 2
  rw [List.drop_append_of_le_length (by simp), List.drop_eq_nil_of_le (by simp)]
  simp [Nat.add_assoc]
end Go.Proofs.YtdkdgbiagjflgaaDoor
