/- Lemmas of mine, merged: QFReadOpen. -/
import Derived.Test.YtiegejbbjlhpdaaQFRexOpenAll
import Derived.Test.YtiegejbbjlhpdaaQFReadJAll
/- Lemmas of mine. -/
namespace Go.Proofs.Ytiegejbbjlhpdaa
open Go.ChangeShapes Go.WideShapes Go.ChangeAt Go.RowKit
section
variable {H : Type} {enc : TypeId × Value → H} {W : World} {held : Bool}
theorem cellsT : Try.prog.cellsOf 9 = 1 := by kernel_rfl
set_option maxRecDepth 100000 in
theorem open_texts {v : Value} {d : DataW H} {p : List MemPlace} {r : Reach} {b0 : Nat} (hv : Value.okWide Try.prog W r b0 36 v) (h : DataW.Trod enc Try.prog W 0 (fun _ => true) held 36 v d p) :
    ∃ (al : Option Addr) (cap : Nat) (L : List ByteArray), v = .slice al L.length cap ∧ StrsAt W al L ∧ L.length ≤ maxLen := by
  obtain ⟨a, len, cap, rfl⟩ := okWide_slice Try.underlying36 hv
  obtain ⟨fuel, hf⟩ := h
  rcases Go.Deep.open_strs Try.underlying36 Try.underlying9 cellsT (cs := [.slice a len cap]) (by simpa [Value.cells] using hf) with ⟨e, _⟩ | ⟨a', len', cap', m, Sx, e, _, hl, hm, hmm, _, hc⟩
  · simp at e
    obtain ⟨rfl, rfl, rfl⟩ := e
    exact ⟨none, 0, [], rfl, .inl rfl, Nat.zero_le _⟩
  · simp at e
    obtain ⟨rfl, rfl, rfl⟩ := e
    have hlm : len ≤ m := by rw [hmm]; simp; omega
    refine ⟨some a', cap, (List.range len).map Sx, by simp, ?_, by simp; omega⟩
    by_cases hz : len = 0
    · subst hz; exact .inl rfl
    · obtain ⟨b, off, spot⟩ := a'
      have e0 := (hc 0 (by omega)).1
      have hspot : spot = none := by simpa [Addr.add] using World.cell?_spot e0
      subst hspot
      have hlt : b < W.heap.size := by
        rw [Go.WideShapes.add_plain] at e0
        exact box_lt e0
      refine .inr ⟨b, off, rfl, hlt, fun i hi => ?_⟩
      simp at hi
      have := (hc i (by omega)).1
      rw [Go.WideShapes.add_plain] at this
      simpa using this
end
end Go.Proofs.Ytiegejbbjlhpdaa
