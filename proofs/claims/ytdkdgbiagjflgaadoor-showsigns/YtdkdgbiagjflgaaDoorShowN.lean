/- The text of an expression: unlike ones have unlike texts; no program. -/
import Derived.Test.YtdkdgbiagjflgaaDoorShowM
namespace Go.Proofs.YtdkdgbiagjflgaaDoor
def roundL (s : List UInt8) (b : Bool) : List UInt8 := if b = true then 40 :: (s ++ [41]) else s
def Ex.isAlt : Ex → Bool
  | .alt _ _ => true
  | _ => false
def Ex.isSeq : Ex → Bool
  | .seq _ _ => true
  | _ => false
def Ex.text : Ex → List UInt8
  | .empty => [91, 93]
  | .eps => [40, 41]
  | .cls s => textW s
  | .seq a b => roundL a.text (a.isSeq || a.isAlt) ++ roundL b.text b.isAlt
  | .alt a b => roundL a.text a.isAlt ++ 124 :: b.text
  | .star a => roundL a.text (a.isSeq || a.isAlt) ++ [42]
def Ex.item (e : Ex) : List UInt8 := roundL e.text (e.isSeq || e.isAlt)
def Ex.part (e : Ex) : List UInt8 := roundL e.text e.isAlt
theorem text_seq (a b : Ex) : (Ex.seq a b).text = a.item ++ b.part := rfl
theorem text_alt (a b : Ex) : (Ex.alt a b).text = a.part ++ 124 :: b.text := rfl
theorem text_star (a : Ex) : (Ex.star a).text = a.item ++ [42] := rfl
theorem item_star (a : Ex) : (Ex.star a).item = a.item ++ [42] := rfl
theorem item_seq (a b : Ex) : (Ex.seq a b).item = 40 :: ((Ex.seq a b).text ++ [41]) := rfl
theorem item_alt (a b : Ex) : (Ex.alt a b).item = 40 :: ((Ex.alt a b).text ++ [41]) := rfl
theorem part_seq (a b : Ex) : (Ex.seq a b).part = a.item ++ b.part := rfl
theorem part_item {e : Ex} (h : e.isSeq = false) : e.part = e.item := by unfold Ex.part Ex.item; rw [h]; rfl
theorem part_text {e : Ex} (h : e.isAlt = false) : e.part = e.text := by unfold Ex.part roundL; rw [h]; rfl
/-- A byte that a text begins with. -/
def Starts (c : UInt8) : Prop := c ≠ 41 ∧ c ≠ 42 ∧ c ≠ 124 ∧ c ≠ 93
theorem sign_start : ∀ n : Fin 256, ∃ c t, signL n.1 = c :: t ∧ c ≠ 41 ∧ c ≠ 42 ∧ c ≠ 124 ∧ c ≠ 93 ∧ c ≠ 40 ∧ c ≠ 91 ∧ c ≠ 46 := by
  intro n
  have h : ∀ n : Fin 256, (signL n.1).headD 0 ≠ 41 ∧ (signL n.1).headD 0 ≠ 42 ∧ (signL n.1).headD 0 ≠ 124 ∧ (signL n.1).headD 0 ≠ 93 ∧ (signL n.1).headD 0 ≠ 40 ∧ (signL n.1).headD 0 ≠ 91 ∧ (signL n.1).headD 0 ≠ 46 := by decide +kernel
  have h2 := h n
  have hl := (signL_length n.1).2
  match hs : signL n.1, hl with
  | c :: t, _ =>
    rw [hs] at h2
    exact ⟨c, t, rfl, h2⟩
theorem sign_no93 : ∀ n : Fin 256, ∀ c ∈ signL n.1, c ≠ 93 := by decide +kernel
theorem textOf_no93 : ∀ (k : Nat) (l : List Nat), l.length ≤ k → (∀ x ∈ l, x < 256) → ∀ c ∈ textOf l, c ≠ 93
  | 0, l, h, _ => by
    have : l = [] := List.eq_nil_of_length_eq_zero (by omega)
    subst this
    simp [textOf_nil]
  | k + 1, [], _, _ => by simp [textOf_nil]
  | k + 1, x :: l, h, hl => by
    have hx := hl x (List.mem_cons_self ..)
    simp at h
    have hrest : ∀ y ∈ l.drop (runFrom x l), y < 256 := fun y hy => hl y (List.mem_cons_of_mem _ (List.mem_of_mem_drop hy))
    have ih := textOf_no93 k (l.drop (runFrom x l)) (by simp; omega) hrest
    have htk := runFrom_take x l
    intro c hc
    rw [textOf_cons] at hc
    rcases List.mem_append.1 hc with hc | hc
    · have hin : ∀ j, 1 ≤ j → j ≤ runFrom x l → x + j < 256 := fun j h1 h2 => by
        have : x + j ∈ l.take (runFrom x l) := by rw [htk]; simp [List.mem_range'_1]; omega
        exact hl _ (List.mem_cons_of_mem _ (List.mem_of_mem_take this))
      unfold segL at hc
      split at hc
      · rename_i h3
        have hm := hin (runFrom x l) (by omega) (Nat.le_refl _)
        rcases List.mem_append.1 hc with hc | hc
        · exact sign_no93 ⟨x, hx⟩ c hc
        · rcases List.mem_cons.1 hc with rfl | hc
          · decide
          · exact sign_no93 ⟨x + (1 + runFrom x l) - 1, by omega⟩ c hc
      · split at hc
        · rename_i h2
          have hm := hin 1 (Nat.le_refl _) (by omega)
          rcases List.mem_append.1 hc with hc | hc
          · exact sign_no93 ⟨x, hx⟩ c hc
          · exact sign_no93 ⟨x + 1, hm⟩ c hc
        · exact sign_no93 ⟨x, hx⟩ c hc
    · exact ih c hc
theorem split93 : ∀ (a b x y : List UInt8), (∀ c ∈ a, c ≠ 93) → (∀ c ∈ b, c ≠ 93) → a ++ 93 :: x = b ++ 93 :: y → a = b ∧ x = y
  | [], [], x, y, _, _, h => by simpa using h
  | [], c :: b, x, y, _, hb, h => by
    simp at h
    exact absurd h.1.symm (hb c (by simp))
  | c :: a, [], x, y, ha, _, h => by
    simp at h
    exact absurd h.1 (ha c (by simp))
  | c :: a, d :: b, x, y, ha, hb, h => by
    simp at h
    obtain ⟨rfl, h⟩ := h
    have := split93 a b x y (fun e he => ha e (List.mem_cons_of_mem _ he)) (fun e he => hb e (List.mem_cons_of_mem _ he)) h
    exact ⟨by rw [this.1], this.2⟩
theorem bytes_ne {s : Ws} (hs : s.Ok) (h : s ≠ Ws.nil) : bytesN s ≠ [] := fun e => h (bytesN_inj hs Ws.nil_ok (by rw [e]; decide))
/-- What a set's text is: a dot, a sign, or some in brackets. -/
theorem textW_cases {s : Ws} (hs : s.Ok) (h : s ≠ Ws.nil) : textW s = [46] ∨ (∃ n : Fin 256, textW s = signL n.1) ∨ ∃ a, textW s = 91 :: (a ++ [93]) ∧ (∀ c ∈ a, c ≠ 93) ∧ a ≠ [] := by
  unfold textW
  split
  · exact .inl rfl
  · split
    · rename_i h1
      obtain ⟨x, hx⟩ := List.length_eq_one_iff.1 h1
      have hlt : x < 256 := bytesN_lt s x (by rw [hx]; simp)
      exact .inr (.inl ⟨⟨x, hlt⟩, by rw [hx]; rfl⟩)
    · refine .inr (.inr ⟨_, rfl, textOf_no93 _ _ (Nat.le_refl _) (bytesN_lt s), ?_⟩)
      have hne := bytes_ne hs h
      match hb : bytesN s, hne with
      | x :: l, _ =>
        rw [textOf_cons]
        intro e
        have h1 := (List.append_eq_nil_iff.1 e).1
        have h2 := signL_length x
        unfold segL at h1
        split at h1
        · rw [(List.append_eq_nil_iff.1 h1).1] at h2; simp at h2
        · split at h1
          · rw [(List.append_eq_nil_iff.1 h1).1] at h2; simp at h2
          · rw [h1] at h2; simp at h2
theorem textW_pre {s t : Ws} (hs : s.Ok) (ht : t.Ok) (hs0 : s ≠ Ws.nil) (ht0 : t ≠ Ws.nil) {x y : List UInt8} (h : textW s ++ x = textW t ++ y) : s = t ∧ x = y := by
  have key : textW s = textW t ∧ x = y := by
    rcases textW_cases hs hs0 with e1 | ⟨n, e1⟩ | ⟨a, e1, ha, _⟩ <;> rcases textW_cases ht ht0 with e2 | ⟨m, e2⟩ | ⟨b, e2, hb, _⟩
    · rw [e1, e2] at h ⊢; exact ⟨rfl, by simpa using h⟩
    · obtain ⟨c, u, hc, _, _, _, _, _, _, h46⟩ := sign_start m
      rw [e1, e2, hc] at h
      simp at h
      exact absurd h.1.symm h46
    · rw [e1, e2] at h; simp at h
    · obtain ⟨c, u, hc, _, _, _, _, _, _, h46⟩ := sign_start n
      rw [e1, e2, hc] at h
      simp at h
      exact absurd h.1 h46
    · rw [e1, e2] at h ⊢
      have r1 := readSign_sign n.1 n.2 x
      have r2 := readSign_sign m.1 m.2 y
      rw [h, r2] at r1
      simp at r1
      rw [r1.1, r1.2]; exact ⟨rfl, rfl⟩
    · obtain ⟨c, u, hc, _, _, _, _, _, h91, _⟩ := sign_start n
      rw [e1, e2, hc] at h
      simp at h
      exact absurd h.1 h91
    · rw [e1, e2] at h; simp at h
    · obtain ⟨c, u, hc, _, _, _, _, _, h91, _⟩ := sign_start m
      rw [e1, e2, hc] at h
      simp at h
      exact absurd h.1.symm h91
    · rw [e1, e2] at h ⊢
      simp at h
      have := split93 a b x y ha hb h
      rw [this.1, this.2]; exact ⟨rfl, rfl⟩
  exact ⟨textW_inj hs ht key.1, key.2⟩
theorem textW_start {s : Ws} (hs : s.Ok) (h : s ≠ Ws.nil) : ∃ c t, textW s = c :: t ∧ Starts c ∧ c ≠ 40 := by
  rcases textW_cases hs h with e | ⟨n, e⟩ | ⟨a, e, _, _⟩
  · exact ⟨_, _, e, by unfold Starts; decide, by decide⟩
  · obtain ⟨c, u, hc, h1, h2, h3, h4, h5, _⟩ := sign_start n
    exact ⟨c, u, by rw [e, hc], ⟨h1, h2, h3, h4⟩, h5⟩
  · exact ⟨_, _, e, by unfold Starts; decide, by decide⟩
theorem textW_not_empty {s : Ws} (hs : s.Ok) (h : s ≠ Ws.nil) (x y : List UInt8) : textW s ++ x ≠ 91 :: 93 :: y := by
  intro e
  rcases textW_cases hs h with e1 | ⟨n, e1⟩ | ⟨a, e1, ha, hne⟩
  · rw [e1] at e; simp at e
  · obtain ⟨c, u, hc, _, _, _, _, _, h91, _⟩ := sign_start n
    rw [e1, hc] at e
    simp at e
    exact h91 e.1
  · rw [e1] at e
    match a, hne with
    | c :: a, _ =>
      simp at e
      exact ha c (by simp) e.1
theorem start_round {s : List UInt8} {b : Bool} (h : ∃ c t, s = c :: t ∧ Starts c) : ∃ c t, roundL s b = c :: t ∧ Starts c := by
  unfold roundL
  split
  · exact ⟨_, _, rfl, by unfold Starts; decide⟩
  · exact h
theorem start_app {s x : List UInt8} (h : ∃ c t, s = c :: t ∧ Starts c) : ∃ c t, s ++ x = c :: t ∧ Starts c := by
  obtain ⟨c, t, rfl, hc⟩ := h
  exact ⟨c, t ++ x, rfl, hc⟩
theorem text_start : ∀ e : Ex, e.Wf → ∃ c t, e.text = c :: t ∧ Starts c
  | .empty, _ => ⟨_, _, rfl, by unfold Starts; decide⟩
  | .eps, _ => ⟨_, _, rfl, by unfold Starts; decide⟩
  | .cls s, h => by
    obtain ⟨c, t, e, hc, _⟩ := textW_start h.1 h.2
    exact ⟨c, t, e, hc⟩
  | .seq a b, h => start_app (start_round (text_start a h.1))
  | .alt a b, h => start_app (start_round (text_start a h.1))
  | .star a, h => start_app (start_round (text_start a h))
theorem item_start {e : Ex} (h : e.Wf) : ∃ c t, e.item = c :: t ∧ Starts c := start_round (text_start e h)
theorem part_start {e : Ex} (h : e.Wf) : ∃ c t, e.part = c :: t ∧ Starts c := start_round (text_start e h)
def Term0 (x : List UInt8) : Prop := x = [] ∨ ∃ t, x = 41 :: t
def Term1 (x : List UInt8) : Prop := x = [] ∨ (∃ t, x = 41 :: t) ∨ ∃ t, x = 124 :: t
def NoStar (x : List UInt8) : Prop := ∀ t, x ≠ 42 :: t
theorem Term1.noStar {x : List UInt8} (h : Term1 x) : NoStar x := by
  rintro t rfl
  rcases h with h | ⟨u, h⟩ | ⟨u, h⟩ <;> simp at h
theorem noStar_part {e : Ex} (h : e.Wf) (x : List UInt8) : NoStar (e.part ++ x) := by
  obtain ⟨c, t, e1, hc⟩ := start_app (x := x) (part_start h)
  rintro u hu
  rw [e1] at hu
  simp at hu
  exact hc.2.1 hu.1
theorem term_not_part {e : Ex} (h : e.Wf) {x y : List UInt8} (hy : Term1 y) (he : e.part ++ x = y) : False := by
  obtain ⟨c, t, e1, hc⟩ := start_app (x := x) (part_start h)
  rw [e1] at he
  rcases hy with hy | ⟨u, hy⟩ | ⟨u, hy⟩
  · rw [hy] at he; simp at he
  · rw [hy] at he; simp at he; exact hc.1 he.1
  · rw [hy] at he; simp at he; exact hc.2.2.1 he.1
/-- Texts up to a size tell the expression. -/
def TP (N : Nat) : Prop := ∀ e f : Ex, ∀ x y : List UInt8, e.size ≤ N → e.Wf → f.Wf → Term0 x → Term0 y → e.text ++ x = f.text ++ y → e = f ∧ x = y
def Ex.base : Ex → Ex
  | .star a => a.base
  | e => e
def Ex.stars : Ex → Nat
  | .star a => a.stars + 1
  | _ => 0
def Ex.isStar : Ex → Bool
  | .star _ => true
  | _ => false
theorem base_star : ∀ e : Ex, e.base.isStar = false
  | .empty => rfl
  | .eps => rfl
  | .cls _ => rfl
  | .seq _ _ => rfl
  | .alt _ _ => rfl
  | .star a => base_star a
theorem item_base : ∀ e : Ex, e.item = e.base.item ++ List.replicate e.stars 42
  | .empty => by simp [Ex.base, Ex.stars]
  | .eps => by simp [Ex.base, Ex.stars]
  | .cls _ => by simp [Ex.base, Ex.stars]
  | .seq _ _ => by simp [Ex.base, Ex.stars]
  | .alt _ _ => by simp [Ex.base, Ex.stars]
  | .star a => by
    rw [item_star, item_base a, Ex.base, Ex.stars, List.append_assoc, List.replicate_succ']
theorem base_wf : ∀ e : Ex, e.Wf → e.base.Wf
  | .empty, h => h
  | .eps, h => h
  | .cls _, h => h
  | .seq _ _, h => h
  | .alt _ _, h => h
  | .star a, h => base_wf a h
theorem base_size : ∀ e : Ex, e.base.size + e.stars ≤ e.size
  | .empty => by simp [Ex.base, Ex.stars]
  | .eps => by simp [Ex.base, Ex.stars]
  | .cls _ => by simp [Ex.base, Ex.stars]
  | .seq _ _ => by simp [Ex.base, Ex.stars]
  | .alt _ _ => by simp [Ex.base, Ex.stars]
  | .star a => by
    have := base_size a
    simp [Ex.base, Ex.stars, Ex.size]; omega
theorem base_inj : ∀ e f : Ex, e.base = f.base → e.stars = f.stars → e = f
  | .star a, .star b, h1, h2 => by
    have := base_inj a b h1 (by simpa [Ex.stars] using h2)
    rw [this]
  | .star a, .empty, _, h2 => by simp [Ex.stars] at h2
  | .star a, .eps, _, h2 => by simp [Ex.stars] at h2
  | .star a, .cls _, _, h2 => by simp [Ex.stars] at h2
  | .star a, .seq _ _, _, h2 => by simp [Ex.stars] at h2
  | .star a, .alt _ _, _, h2 => by simp [Ex.stars] at h2
  | .empty, f, h1, h2 => by cases f <;> simp_all [Ex.base, Ex.stars]
  | .eps, f, h1, h2 => by cases f <;> simp_all [Ex.base, Ex.stars]
  | .cls _, f, h1, h2 => by cases f <;> simp_all [Ex.base, Ex.stars]
  | .seq _ _, f, h1, h2 => by cases f <;> simp_all [Ex.base, Ex.stars]
  | .alt _ _, f, h1, h2 => by cases f <;> simp_all [Ex.base, Ex.stars]
theorem stars_pre : ∀ (n m : Nat) (x y : List UInt8), NoStar x → NoStar y → List.replicate n 42 ++ x = List.replicate m 42 ++ y → n = m ∧ x = y
  | 0, 0, x, y, _, _, h => ⟨rfl, by simpa using h⟩
  | 0, m + 1, x, y, hx, _, h => by simp [List.replicate_succ] at h; exact absurd h (hx _)
  | n + 1, 0, x, y, _, hy, h => by simp [List.replicate_succ] at h; exact absurd h.symm (hy _)
  | n + 1, m + 1, x, y, hx, hy, h => by
    simp [List.replicate_succ] at h
    have := stars_pre n m x y hx hy h
    exact ⟨by rw [this.1], this.2⟩
theorem group_pre {N : Nat} (H : TP N) {e f : Ex} (he : e.size ≤ N) (we : e.Wf) (wf : f.Wf) {x y : List UInt8} (h : 40 :: (e.text ++ [41]) ++ x = 40 :: (f.text ++ [41]) ++ y) : e = f ∧ x = y := by
  have h' : e.text ++ (41 :: x) = f.text ++ (41 :: y) := by simpa using h
  have := H e f (41 :: x) (41 :: y) he we wf (.inr ⟨_, rfl⟩) (.inr ⟨_, rfl⟩) h'
  exact ⟨this.1, by simpa using this.2⟩
theorem group_not_eps {e : Ex} (we : e.Wf) (x y : List UInt8) : 40 :: (e.text ++ [41]) ++ x ≠ [40, 41] ++ y := by
  obtain ⟨c, t, e1, hc⟩ := text_start e we
  rw [e1]
  intro h
  simp at h
  exact hc.1 h.1
theorem cls_not40 {s : Ws} (hs : s.Ok) (h : s ≠ Ws.nil) (x y : List UInt8) : textW s ++ x ≠ 40 :: y := by
  obtain ⟨c, t, e1, _, hc⟩ := textW_start hs h
  rw [e1]
  intro h
  simp at h
  exact hc h.1
theorem base_pre {N : Nat} (H : TP N) (e f : Ex) (he : e.size ≤ N ∨ (e.isSeq = false ∧ e.isAlt = false)) (we : e.Wf) (wf : f.Wf) (se : e.isStar = false) (sf : f.isStar = false) {x y : List UInt8} (h : e.item ++ x = f.item ++ y) : e = f ∧ x = y := by
  match e, f, he, we, wf, se, sf, h with
  | .empty, .empty, _, _, _, _, _, h => exact ⟨rfl, by simpa using h⟩
  | .empty, .eps, _, _, _, _, _, h => exact absurd h (by simp [Ex.item, Ex.isSeq, Ex.isAlt, roundL, Ex.text])
  | .empty, .cls t, _, _, wf, _, _, h => exact absurd h.symm (textW_not_empty wf.1 wf.2 y x)
  | .empty, .seq _ _, _, _, _, _, _, h => exact absurd h (by simp [Ex.item, Ex.isSeq, Ex.isAlt, roundL, Ex.text])
  | .empty, .alt _ _, _, _, _, _, _, h => exact absurd h (by simp [Ex.item, Ex.isSeq, Ex.isAlt, roundL, Ex.text])
  | .eps, .empty, _, _, _, _, _, h => exact absurd h (by simp [Ex.item, Ex.isSeq, Ex.isAlt, roundL, Ex.text])
  | .eps, .eps, _, _, _, _, _, h => exact ⟨rfl, by simpa using h⟩
  | .eps, .cls t, _, _, wf, _, _, h => exact absurd h.symm (cls_not40 wf.1 wf.2 y _)
  | .eps, .seq _ _, _, _, wf, _, _, h => exact absurd h.symm (group_not_eps wf y x)
  | .eps, .alt _ _, _, _, wf, _, _, h => exact absurd h.symm (group_not_eps wf y x)
  | .cls s, .empty, _, we, _, _, _, h => exact absurd h (textW_not_empty we.1 we.2 x y)
  | .cls s, .eps, _, we, _, _, _, h => exact absurd h (cls_not40 we.1 we.2 x _)
  | .cls s, .cls t, _, we, wf, _, _, h =>
    have := textW_pre we.1 wf.1 we.2 wf.2 h
    exact ⟨by rw [this.1], this.2⟩
  | .cls s, .seq _ _, _, we, _, _, _, h => exact absurd h (cls_not40 we.1 we.2 x _)
  | .cls s, .alt _ _, _, we, _, _, _, h => exact absurd h (cls_not40 we.1 we.2 x _)
  | .seq _ _, .empty, _, _, _, _, _, h => exact absurd h (by simp [Ex.item, Ex.isSeq, Ex.isAlt, roundL, Ex.text])
  | .seq _ _, .eps, _, we, _, _, _, h => exact absurd h (group_not_eps we x y)
  | .seq _ _, .cls t, _, _, wf, _, _, h => exact absurd h.symm (cls_not40 wf.1 wf.2 y _)
  | .seq a b, .seq c d, he, we, wf, _, _, h => exact group_pre H (by simpa [Ex.isSeq] using he) we wf h
  | .seq a b, .alt c d, he, we, wf, _, _, h => exact group_pre H (by simpa [Ex.isSeq] using he) we wf h
  | .alt _ _, .empty, _, _, _, _, _, h => exact absurd h (by simp [Ex.item, Ex.isSeq, Ex.isAlt, roundL, Ex.text])
  | .alt _ _, .eps, _, we, _, _, _, h => exact absurd h (group_not_eps we x y)
  | .alt _ _, .cls t, _, _, wf, _, _, h => exact absurd h.symm (cls_not40 wf.1 wf.2 y _)
  | .alt a b, .seq c d, he, we, wf, _, _, h => exact group_pre H (by simpa [Ex.isAlt] using he) we wf h
  | .alt a b, .alt c d, he, we, wf, _, _, h => exact group_pre H (by simpa [Ex.isAlt] using he) we wf h
theorem item_pre {N : Nat} (H : TP N) {e f : Ex} (he : e.size ≤ N ∨ (e.isSeq = false ∧ e.isAlt = false ∧ e.size ≤ N + 1)) (we : e.Wf) (wf : f.Wf) {x y : List UInt8} (hx : NoStar x) (hy : NoStar y) (h : e.item ++ x = f.item ++ y) : e = f ∧ x = y := by
  rw [item_base e, item_base f, List.append_assoc, List.append_assoc] at h
  have hs := base_size e
  have hb : e.base.size ≤ N ∨ (e.base.isSeq = false ∧ e.base.isAlt = false) := by
    rcases he with he | ⟨h1, h2, h3⟩
    · exact .inl (by omega)
    · cases e with
      | star a =>
        refine .inl ?_
        have : (Ex.star a).stars = a.stars + 1 := rfl
        omega
      | _ => exact .inr ⟨h1, h2⟩
  have h1 := base_pre H e.base f.base hb (base_wf e we) (base_wf f wf) (base_star e) (base_star f) h
  have h2 := stars_pre _ _ _ _ hx hy h1.2
  exact ⟨base_inj e f h1.1 h2.1, h2.2⟩
theorem part_pre {N : Nat} (H : TP N) : ∀ (e f : Ex) (x y : List UInt8), (e.size ≤ N ∨ (e.isAlt = false ∧ e.size ≤ N + 1)) → e.Wf → f.Wf → Term1 x → Term1 y → e.part ++ x = f.part ++ y → e = f ∧ x = y
  | .seq a b, f, x, y, he, we, wf, hx, hy, h => by
    have hz : (Ex.seq a b).size = 1 + a.size + b.size := rfl
    have ha : a.size ≤ N := by omega
    have hb : b.size ≤ N := by omega
    rw [part_seq, List.append_assoc] at h
    by_cases hf : f.isSeq = true
    · match f, hf, wf, h with
      | .seq c d, _, wf, h =>
        rw [part_seq, List.append_assoc] at h
        have h1 := item_pre H (.inl ha) we.1 wf.1 (noStar_part we.2 x) (noStar_part wf.2 y) h
        have h2 := part_pre H b d x y (.inl hb) we.2 wf.2 hx hy h1.2
        exact ⟨by rw [h1.1, h2.1], h2.2⟩
    · rw [part_item (e := f) (by simpa using hf)] at h
      have h1 := item_pre H (.inl ha) we.1 wf (noStar_part we.2 x) hy.noStar h
      exact (term_not_part we.2 hy h1.2).elim
  | .empty, f, x, y, he, we, wf, hx, hy, h => part_one H rfl he we wf hx hy h
  | .eps, f, x, y, he, we, wf, hx, hy, h => part_one H rfl he we wf hx hy h
  | .cls _, f, x, y, he, we, wf, hx, hy, h => part_one H rfl he we wf hx hy h
  | .alt _ _, f, x, y, he, we, wf, hx, hy, h => part_one H rfl he we wf hx hy h
  | .star _, f, x, y, he, we, wf, hx, hy, h => part_one H rfl he we wf hx hy h
where
  part_one {N : Nat} (H : TP N) {e f : Ex} {x y : List UInt8} (hse : e.isSeq = false) (he : e.size ≤ N ∨ (e.isAlt = false ∧ e.size ≤ N + 1)) (we : e.Wf) (wf : f.Wf) (hx : Term1 x) (hy : Term1 y) (h : e.part ++ x = f.part ++ y) : e = f ∧ x = y := by
    rw [part_item hse] at h
    have he' : e.size ≤ N ∨ (e.isSeq = false ∧ e.isAlt = false ∧ e.size ≤ N + 1) := by
      rcases he with he | ⟨h1, h2⟩
      · exact .inl he
      · exact .inr ⟨hse, h1, h2⟩
    by_cases hf : f.isSeq = true
    · match f, hf, wf, h with
      | .seq c d, _, wf, h =>
        rw [part_seq, List.append_assoc] at h
        have h1 := item_pre H he' we wf.1 hx.noStar (noStar_part wf.2 y) h
        exact (term_not_part wf.2 hx h1.2.symm).elim
    · rw [part_item (by simpa using hf)] at h
      exact item_pre H he' we wf hx.noStar hy.noStar h
theorem Term0.one {x : List UInt8} (h : Term0 x) : Term1 x := by
  rcases h with h | h
  · exact .inl h
  · exact .inr (.inl h)
theorem text_pre (N : Nat) : TP N := by
  induction N with
  | zero =>
    intro e f x y he
    have : 0 < e.size := by cases e <;> simp [Ex.size] <;> omega
    omega
  | succ N H =>
    intro e f x y he we wf hx hy h
    by_cases hea : e.isAlt = true
    · match e, hea, he, we, h with
      | .alt a b, _, he, we, h =>
        have hz : (Ex.alt a b).size = 1 + a.size + b.size := rfl
        rw [text_alt, List.append_assoc, List.cons_append] at h
        by_cases hfa : f.isAlt = true
        · match f, hfa, wf, h with
          | .alt c d, _, wf, h =>
            rw [text_alt, List.append_assoc, List.cons_append] at h
            have h1 := part_pre H a c _ _ (.inl (by omega)) we.1 wf.1 (.inr (.inr ⟨_, rfl⟩)) (.inr (.inr ⟨_, rfl⟩)) h
            have h2 := H b d x y (by omega) we.2 wf.2 hx hy (by simpa using h1.2)
            exact ⟨by rw [h1.1, h2.1], h2.2⟩
        · rw [← part_text (e := f) (by simpa using hfa)] at h
          have h1 := part_pre H a f _ _ (.inl (by omega)) we.1 wf (.inr (.inr ⟨_, rfl⟩)) hy.one h
          rcases hy with hy | ⟨t, hy⟩
          · rw [hy] at h1; simp at h1
          · rw [hy] at h1; simp at h1
    · rw [← part_text (e := e) (by simpa using hea)] at h
      by_cases hfa : f.isAlt = true
      · match f, hfa, wf, h with
        | .alt c d, _, wf, h =>
          rw [text_alt, List.append_assoc, List.cons_append] at h
          have h1 := part_pre H e c _ _ (.inr ⟨by simpa using hea, he⟩) we wf.1 hx.one (.inr (.inr ⟨_, rfl⟩)) h
          rcases hx with hx | ⟨t, hx⟩
          · rw [hx] at h1; simp at h1
          · rw [hx] at h1; simp at h1
      · rw [← part_text (e := f) (by simpa using hfa)] at h
        exact part_pre H e f x y (.inr ⟨by simpa using hea, he⟩) we wf hx.one hy.one h
/-- Unlike expressions that may be have unlike texts. -/
theorem text_inj {e f : Ex} (we : e.Wf) (wf : f.Wf) (h : e.text = f.text) : e = f :=
  (text_pre e.size e f [] [] (Nat.le_refl _) we wf (.inl rfl) (.inl rfl) (by simpa using h)).1
theorem round_length (s : List UInt8) (b : Bool) : (roundL s b).length ≤ s.length + 2 := by
  unfold roundL; split <;> simp
theorem text_length : ∀ e : Ex, e.text.length ≤ 2010 * e.size
  | .empty => by simp [Ex.text, Ex.size]
  | .eps => by simp [Ex.text, Ex.size]
  | .cls s => by have := textW_length s; simp [Ex.text, Ex.size]; omega
  | .seq a b => by
    have h1 := text_length a
    have h2 := text_length b
    have h3 := round_length a.text (a.isSeq || a.isAlt)
    have h4 := round_length b.text b.isAlt
    simp [Ex.text, Ex.size]; omega
  | .alt a b => by
    have h1 := text_length a
    have h2 := text_length b
    have h3 := round_length a.text a.isAlt
    simp [Ex.text, Ex.size]; omega
  | .star a => by
    have h1 := text_length a
    have h3 := round_length a.text (a.isSeq || a.isAlt)
    simp [Ex.text, Ex.size]; omega
theorem text_ne {e : Ex} (h : e.Wf) : e.text ≠ [] := by
  obtain ⟨c, t, e1, _⟩ := text_start e h
  rw [e1]; simp
end Go.Proofs.YtdkdgbiagjflgaaDoor
