/- quillref04's Sort: the inner loop's pieces. -/
import Derived.Test.YthkkeamjigmfhaaOrdC
import Derived.Deep.RegionHeld3
namespace Go.Proofs.Ythkkeamjigmfhaa
open Go.RowKit
/-- A row of a call's own, whose nodes' rows lie where those of the arguments lay. -/
def OutAt (n B : Nat) (w : World) (al : Option Addr) (O : List Rx) : Prop := O = [] ∨ ∃ g off, al = some ⟨g, off, none⟩ ∧ n ≤ g ∧ g < w.heap.size ∧ NodesAt (Lo B) w g off O
theorem OutAt.below {n B : Nat} {w w' : World} {al : Option Addr} {O : List Rx} (h : OutAt n B w al O) (hb : Below w.heap.size w w') : OutAt n B w' al O := by
  rcases h with h | ⟨g, off, e, h1, h2, h3⟩
  · exact .inl h
  · exact .inr ⟨g, off, e, h1, Nat.lt_of_lt_of_le h2 hb.size, NodesAt.below hb O h2 h3⟩
theorem OutAt.kid {n B : Nat} {w : World} {al : Option Addr} {O : List Rx} (h : OutAt n B w al O) {k : Nat} (hk : k < O.length) : ∃ g off, al = some ⟨g, off, none⟩ ∧ g < w.heap.size ∧ NodeAt (Lo B) w g (off + k * 6) O[k] := by
  rcases h with h | ⟨g, off, e, _, h2, h3⟩
  · subst h; simp at hk
  · exact ⟨g, off, e, h2, nodesAt_get h3 k hk⟩
theorem OutAt.row {n B : Nat} {w : World} {al : Option Addr} {O : List Rx} (h : OutAt n B w al O) : RowAt (fun b => Lo B b ∨ n ≤ b) w al O := by
  rcases h with h | ⟨g, off, e, h1, h2, h3⟩
  · exact .inl h
  · exact .inr ⟨g, off, e, h2, .inr h1, NodesAt.go (ok := Lo B) ⟨Nat.le_refl _, fun b _ h => ⟨.inl h, rfl⟩⟩ O rfl h3⟩
theorem out_of_own {n B : Nat} {w : World} {v : Value} {xs : List Value} {O : List Rx} (h : w.ownsRow n 27 6 v O.length xs) (hv : RowVals (Lo B) w xs O) : ∃ al cap, v = .slice al O.length cap ∧ O.length ≤ cap ∧ OutAt n B w al O := by
  by_cases hO : O = []
  · obtain ⟨al, cap, e, h1, _⟩ := row_of_own h hv
    exact ⟨al, cap, e, h1, .inl hO⟩
  · obtain ⟨g, cap, e, h1, h2, h3, h4⟩ := own_nodes h hv hO
    exact ⟨_, cap, e, h3, .inr ⟨g, 0, rfl, h1, h2, h4⟩⟩
/-- How far the one that is put in has come. -/
def insAt (r : Rx) (O M : List Rx) (k : Nat) (dn : Bool) : Prop := insR r O = M ++ (if dn = true then O.drop k else insR r (O.drop k)) ∧ M.length = k + (if dn = true then 1 else 0)
theorem insAt_start (r : Rx) (O : List Rx) : insAt r O [] 0 false := ⟨by simp, rfl⟩
theorem insAt_done {r : Rx} {O M : List Rx} {k : Nat} (h : insAt r O M k true) (hk : k < O.length) : insAt r O (M ++ [O[k]]) (k + 1) true := by
  obtain ⟨h1, h2⟩ := h
  refine ⟨?_, by simp at h2 ⊢; omega⟩
  rw [h1]
  simp only [if_true]
  rw [List.drop_eq_getElem_cons hk]; simp
theorem insAt_go {r : Rx} {O M : List Rx} {k : Nat} (h : insAt r O M k false) (hk : k < O.length) (hc : ¬ ordR r O[k] < 0) : insAt r O (M ++ [O[k]]) (k + 1) false := by
  obtain ⟨h1, h2⟩ := h
  refine ⟨?_, by simp at h2 ⊢; omega⟩
  rw [h1]
  simp only [Bool.false_eq_true, if_false]
  rw [List.drop_eq_getElem_cons hk]
  simp [insR, hc]
theorem insAt_put {r : Rx} {O M : List Rx} {k : Nat} (h : insAt r O M k false) (hk : k < O.length) (hc : ordR r O[k] < 0) : insAt r O (M ++ [r] ++ [O[k]]) (k + 1) true := by
  obtain ⟨h1, h2⟩ := h
  refine ⟨?_, by simp at h2 ⊢; omega⟩
  rw [h1]
  simp only [Bool.false_eq_true, if_false, if_true]
  rw [List.drop_eq_getElem_cons hk]
  simp [insR, hc]
theorem insAt_end {r : Rx} {O M : List Rx} {k : Nat} (h : insAt r O M k true) (hk : k = O.length) : insR r O = M := by
  obtain ⟨h1, _⟩ := h
  rw [h1, hk]; simp
theorem insAt_last {r : Rx} {O M : List Rx} {k : Nat} (h : insAt r O M k false) (hk : k = O.length) : insR r O = M ++ [r] := by
  obtain ⟨h1, _⟩ := h
  rw [h1, hk]; simp [insR]
theorem sort_take (l : List Rx) (i : Nat) (h : i < l.length) : sortR (l.take (i + 1)) = insR l[i] (sortR (l.take i)) := by
  rw [List.take_succ_eq_append_getElem h, sortR_snoc]
end Go.Proofs.Ythkkeamjigmfhaa
