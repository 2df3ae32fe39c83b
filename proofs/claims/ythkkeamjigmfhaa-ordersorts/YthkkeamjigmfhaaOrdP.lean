/- Places of a list in order, each once; no program. -/
import Derived.Test.YthkkeamjigmfhaaOrdC
namespace Go.Proofs.Ythkkeamjigmfhaa
def atR (l : List Rx) (i : Nat) : Rx := (l[i]?).getD (.node 0 Ws.nil [])
theorem atR_get {l : List Rx} {i : Nat} (h : i < l.length) : atR l i = l[i] := by simp [atR, h]
/-- One place ahead of another: its expression comes ahead, or they are the same, and it is the lesser one. -/
def PLt (l : List Rx) (i k : Nat) : Prop := ordR (atR l i) (atR l k) < 0 ∨ (ordR (atR l i) (atR l k) = 0 ∧ i < k)
theorem PLt.le {l : List Rx} {i k : Nat} (h : PLt l i k) : ordR (atR l i) (atR l k) ≤ 0 := by rcases h with h | h <;> omega
def Placed (l : List Rx) (n : Nat) (ds : List Nat) : Prop := ds.Perm (List.range n) ∧ ds.Pairwise (PLt l)
theorem Placed.length {l : List Rx} {n : Nat} {ds : List Nat} (h : Placed l n ds) : ds.length = n := by simpa using h.1.length_eq
theorem Placed.lt {l : List Rx} {n : Nat} {ds : List Nat} (h : Placed l n ds) {x : Nat} (hx : x ∈ ds) : x < n := by simpa using (h.1.mem_iff.1 hx)
theorem placed_ins {l : List Rx} {i : Nat} {A B : List Nat} (h : Placed l i (A ++ B)) (hA : A = [] ∨ ∃ A' y, A = A' ++ [y] ∧ ¬ ordR (atR l i) (atR l y) < 0) (hB : ∀ y ∈ B, ordR (atR l i) (atR l y) < 0) : Placed l (i + 1) (A ++ i :: B) := by
  have hlt := fun x (hx : x ∈ A ++ B) => h.lt hx
  obtain ⟨hp, hs⟩ := h
  rw [List.pairwise_append] at hs
  refine ⟨?_, ?_⟩
  · refine List.perm_middle.trans ?_
    rw [List.range_succ]
    exact (List.Perm.cons i hp).trans (List.perm_append_singleton i (List.range i)).symm
  · rw [List.pairwise_append, List.pairwise_cons]
    refine ⟨hs.1, ⟨fun y hy => .inl (hB y hy), hs.2.1⟩, fun a ha b hb => ?_⟩
    rcases List.mem_cons.1 hb with rfl | hb
    · rcases hA with rfl | ⟨A', y, rfl, hy⟩
      · cases ha
      · have h1 : ordR (atR l y) (atR l b) ≤ 0 := by rw [ordR_neg]; omega
        have h2 : ordR (atR l a) (atR l y) ≤ 0 := by
          rcases List.mem_append.1 ha with ha | ha
          · exact ((List.pairwise_append.1 hs.1).2.2 a ha y (by simp)).le
          · obtain rfl : a = y := by simpa using ha
            rw [ordR_self]; exact Int.le_refl _
        have h3 := ordR_trans _ _ _ h2 h1
        have h4 := hlt a (List.mem_append_left _ ha)
        by_cases e : ordR (atR l a) (atR l b) = 0
        · exact .inr ⟨e, h4⟩
        · exact .inl (by omega)
    · exact hs.2.2 a ha b hb
theorem range_at (l : List Rx) : (List.range l.length).map (atR l) = l := by
  refine List.ext_getElem (by simp) fun i h1 h2 => ?_
  simp [atR, h2]
theorem placed_sort {l : List Rx} {ds : List Nat} (h : Placed l l.length ds) : ds.map (atR l) = sortR l := by
  refine sortR_unique ?_ ?_
  · have := h.1.map (atR l)
    rwa [range_at] at this
  · exact List.pairwise_map.2 (h.2.imp fun h => h.le)
/-- None ahead of it is the same. -/
def isFirst (l : List Rx) (i : Nat) : Bool := (List.range i).all fun k => decide (ordR (atR l k) (atR l i) ≠ 0)
theorem isFirst_iff {l : List Rx} {i : Nat} : isFirst l i = true ↔ ∀ k, k < i → ordR (atR l k) (atR l i) ≠ 0 := by simp [isFirst]
def cpt (l : List Rx) (ds : List Nat) : Nat → List Nat
  | 0 => []
  | m + 1 => if m = 0 ∨ ordR (atR l (ds.getD m 0)) (atR l (ds.getD (m - 1) 0)) ≠ 0 then cpt l ds m ++ [ds.getD m 0] else cpt l ds m
theorem cpt_length (l : List Rx) (ds : List Nat) : ∀ m, (cpt l ds m).length ≤ m
  | 0 => by simp [cpt]
  | m + 1 => by
    have := cpt_length l ds m
    unfold cpt
    split
    · simp; omega
    · omega
theorem first_at {l : List Rx} {n : Nat} {ds : List Nat} (h : Placed l n ds) {m : Nat} (hm : m < ds.length) : isFirst l ds[m] = true ↔ m = 0 ∨ ordR (atR l ds[m]) (atR l (ds.getD (m - 1) 0)) ≠ 0 := by
  have hn := h.length
  have pw := List.pairwise_iff_getElem.1 h.2
  have eg : ds.getD (m - 1) 0 = ds[m - 1]'(by omega) := by simp [List.getD, show m - 1 < ds.length from by omega]
  rw [eg, isFirst_iff]
  constructor
  · intro hf
    by_cases h0 : m = 0
    · exact .inl h0
    · refine .inr fun he => ?_
      have hp := pw (m - 1) m (by omega) hm (by omega)
      have he' : ordR (atR l (ds[m - 1]'(by omega))) (atR l ds[m]) = 0 := by rw [ordR_neg, he]; rfl
      rcases hp with hp | ⟨_, hp⟩
      · omega
      · exact hf _ hp he'
  · intro ho k hk he
    have hkn : k < n := Nat.lt_trans hk (h.lt (List.getElem_mem hm))
    have hkm : k ∈ ds := h.1.mem_iff.2 (by simpa using hkn)
    obtain ⟨j, hj, rfl⟩ := List.getElem_of_mem hkm
    rcases Nat.lt_trichotomy j m with hjm | hjm | hjm
    · have h0 : m ≠ 0 := by omega
      rcases ho with ho | ho
      · exact h0 ho
      · have hsame := (ordR_zero _ _).1 he
        have h1 := (pw (m - 1) m (by omega) hm (by omega)).le
        have h2 : ordR (atR l ds[j]) (atR l (ds[m - 1]'(by omega))) ≤ 0 := by
          by_cases e : j = m - 1
          · subst e; rw [ordR_self]; exact Int.le_refl _
          · exact (pw j (m - 1) hj (by omega) (by omega)).le
        rw [hsame] at h2
        refine ho ?_
        rw [ordR_antisymm h1 h2, ordR_self]
    · subst hjm; exact Nat.lt_irrefl _ hk
    · have h1 := pw m j hm hj hjm
      have he' : ordR (atR l ds[m]) (atR l ds[j]) = 0 := by rw [ordR_neg, he]; rfl
      rcases h1 with h1 | ⟨_, h1⟩ <;> omega
theorem cpt_filter {l : List Rx} {n : Nat} {ds : List Nat} (h : Placed l n ds) : ∀ m, m ≤ ds.length → cpt l ds m = (ds.take m).filter (isFirst l)
  | 0, _ => by simp [cpt]
  | m + 1, hm => by
    have ih := cpt_filter h m (by omega)
    have hf := first_at h (m := m) (by omega)
    have eg : ds.getD m 0 = ds[m]'(by omega) := by simp [List.getD, show m < ds.length from by omega]
    have step : cpt l ds (m + 1) = if m = 0 ∨ ordR (atR l (ds.getD m 0)) (atR l (ds.getD (m - 1) 0)) ≠ 0 then cpt l ds m ++ [ds.getD m 0] else cpt l ds m := rfl
    rw [List.take_succ_eq_append_getElem (by omega), List.filter_append, ← ih, step, eg]
    by_cases e : isFirst l (ds[m]'(by omega)) = true
    · rw [if_pos (hf.1 e)]; simp [e]
    · rw [if_neg fun h => e (hf.2 h)]; simp [e]
def firsts (l : List Rx) (n : Nat) : List Nat := (List.range n).filter (isFirst l)
theorem cpt_perm {l : List Rx} {n : Nat} {ds : List Nat} (h : Placed l n ds) : (cpt l ds n).Perm (firsts l n) := by
  have := cpt_filter h ds.length (Nat.le_refl _)
  rw [List.take_length, h.length] at this
  rw [this]
  exact h.1.filter _
theorem firsts_sorted (l : List Rx) (n : Nat) : ((firsts l n).map fun i : Nat => (i : Int)).Pairwise fun x y => x ≤ y := by
  refine List.pairwise_map.2 ((List.pairwise_lt_range (n := n)).filter _ |>.imp fun h => ?_)
  omega
theorem sort_firsts {l : List Rx} {n : Nat} {es : List Nat} (h : es.Perm (firsts l n)) : (es.map fun i : Nat => (i : Int)).mergeSort (fun x y => decide (x ≤ y)) = (firsts l n).map fun i : Nat => (i : Int) := by
  refine List.Perm.eq_of_pairwise (le := fun x y : Int => x ≤ y) (fun a b _ _ h1 h2 => Int.le_antisymm h1 h2) ?_ (firsts_sorted l n) ((List.mergeSort_perm _ _).trans (h.map _))
  have := List.pairwise_mergeSort (le := fun x y : Int => decide (x ≤ y)) (fun a b c h1 h2 => by simp at *; omega) (fun a b => by simp; omega) (es.map fun i : Nat => (i : Int))
  exact this.imp fun h => by simpa using h
theorem firsts_once (l : List Rx) : ∀ i, i ≤ l.length → (firsts l i).map (atR l) = onceTake l i
  | 0, _ => by simp [firsts, onceTake, onceR, onceFrom]
  | i + 1, h => by
    have ih := firsts_once l i (by omega)
    have hs := onceTake_step l i (by omega)
    rw [hs, ← ih]
    have hm : ((firsts l i).map (atR l)).any (fun o => sameR o (l[i]'(by omega))) = true ↔ ¬ isFirst l i = true := by
      rw [ih, any_same]
      unfold onceTake
      rw [onceR_mem, isFirst_iff]
      constructor
      · intro hin hall
        obtain ⟨k, hk, e⟩ := List.getElem_of_mem hin
        rw [List.length_take] at hk
        refine hall k (by omega) ((ordR_zero _ _).2 ?_)
        rw [atR_get (by omega), atR_get (by omega), ← e]; simp
      · intro hno
        apply Classical.byContradiction
        intro hin
        apply hno
        intro k hk he
        apply hin
        have := (ordR_zero _ _).1 he
        rw [atR_get (by omega), atR_get (by omega)] at this
        rw [← this, List.mem_take_iff_getElem]
        exact ⟨k, by omega, rfl⟩
    unfold firsts at *
    rw [List.range_succ, List.filter_append, List.map_append]
    by_cases e : isFirst l i = true
    · rw [if_neg fun h => hm.1 h e]
      simp [e, atR_get (show i < l.length from by omega)]
    · rw [if_pos (hm.2 e)]
      simp [e]
theorem firsts_onceR (l : List Rx) : (firsts l l.length).map (atR l) = onceR l := by
  rw [firsts_once l l.length (Nat.le_refl _)]; simp [onceTake]
theorem firsts_lt {l : List Rx} {n x : Nat} (h : x ∈ firsts l n) : x < n := by
  have := (List.mem_filter.1 h).1
  simpa using this
theorem range'_step {i n : Nat} (h : i < n) : List.range' i (n - i) = i :: List.range' (i + 1) (n - (i + 1)) := by
  rw [show n - i = (n - (i + 1)) + 1 from by omega, List.range'_succ]
end Go.Proofs.Ythkkeamjigmfhaa
