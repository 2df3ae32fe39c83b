/- Slices of sets, opened. -/
import Derived.Test.YtfjagcfbnnbpeaaDoorSetOpenB
import Derived.Test.YtfjagcfbnnbpeaaDoorSetE
namespace Go.Proofs.YtfjagcfbnnbpeaaDoor
open Go.ChangeShapes Go.WideShapes Go.ChangeAt Go.RowKit Go.Deep
theorem list_of_each {α : Type} {P : Nat → α → Prop} : ∀ n : Nat, (∀ i, i < n → ∃ a, P i a) → ∃ l : List α, l.length = n ∧ ∀ i (h : i < l.length), P i l[i]
  | 0, _ => ⟨[], rfl, fun i h => absurd h (Nat.not_lt_zero _)⟩
  | n + 1, h => by
    obtain ⟨l, hl, hp⟩ := list_of_each n fun i hi => h i (by omega)
    obtain ⟨a, ha⟩ := h n (by omega)
    refine ⟨l ++ [a], by simp [hl], fun i hi => ?_⟩
    by_cases e : i < l.length
    · rw [List.getElem_append_left e]; exact hp i e
    · have : i = n := by simp at hi; omega
      subst this
      rw [List.getElem_append_right (by omega)]
      simp [hl]
      exact ha
theorem open_sets {H : Type} {enc : TypeId × Value → H} {W : World} {held : Bool} {a : Option Addr} {len cap : Nat} {d : DataW H} {p : List MemPlace}
    (h : DataW.Trod enc Tryd.prog W 0 (fun _ => true) held 39 (.slice a len cap) d p) : ∃ l : List Ws, l.length = len ∧ SetsAt W a l := by
  obtain ⟨fuel, hf⟩ := h
  rcases open_slice Tryd.underlying39 hf with ⟨hcs, _⟩ | ⟨x, len', cap', m, n, D, Pl, hcs, _, hl, hm, hmm, _, hi⟩
  · simp [Value.cells] at hcs
    obtain ⟨rfl, rfl, rfl⟩ := hcs
    exact ⟨[], rfl, by simp, by simp, .inl rfl⟩
  · simp [Value.cells] at hcs
    obtain ⟨rfl, rfl, rfl⟩ := hcs
    have hmm' : m = cap := by simpa using hmm
    have each : ∀ i, i < len → ∃ s : Ws, s.Ok ∧ W.cell? (x.add (i * 4)) = some (.int .u64 s.a) ∧ W.cell? ((x.add (i * 4)).add 1) = some (.int .u64 s.b) ∧ W.cell? ((x.add (i * 4)).add 2) = some (.int .u64 s.c) ∧ W.cell? ((x.add (i * 4)).add 3) = some (.int .u64 s.d) := by
      intro i hil
      obtain ⟨cs', hc, ht⟩ := hi i (by omega)
      rw [cellsS] at hc
      obtain ⟨_, hcl, hat⟩ := World.cells?_some hc
      obtain ⟨c0, c1, c2, c3, rfl⟩ := list_four cs' (by simpa using hcl)
      obtain ⟨s, hs, rfl, rfl, rfl, rfl⟩ := set_of_cells ht
      have e0 := hat 0 (by decide)
      have e1 := hat 1 (by decide)
      have e2 := hat 2 (by decide)
      have e3 := hat 3 (by decide)
      have ez : (x.add (i * 4)).add 0 = x.add (i * 4) := by simp [Addr.add]
      rw [ez] at e0
      exact ⟨s, hs, e0, e1, e2, e3⟩
    obtain ⟨l, hll, hP⟩ := list_of_each len each
    refine ⟨l, hll, by omega, ?_, ?_⟩
    · intro s hs
      obtain ⟨i, hi', rfl⟩ := List.getElem_of_mem hs
      exact (hP i hi').1
    · by_cases hz : l = []
      · exact .inl hz
      · have h0 : 0 < l.length := List.length_pos_iff.2 hz
        obtain ⟨b, off, spot⟩ := x
        have c0 := (hP 0 h0).2.1
        have hspot : spot = none := by simpa [Addr.add] using World.cell?_spot c0
        subst hspot
        have e : (0 * 4 : Nat) = 0 := rfl
        rw [e] at c0
        refine .inr ⟨b, off, rfl, first_lt c0, fun i hi' => ?_⟩
        obtain ⟨_, a0, a1, a2, a3⟩ := hP i hi'
        rw [Go.WideShapes.add_plain] at a0 a1 a2 a3
        rw [Go.WideShapes.add_plain] at a1 a2 a3
        exact ⟨a0, a1, a2, a3⟩
end Go.Proofs.YtfjagcfbnnbpeaaDoor
