/- Slices of bytes of a call's own. -/
import Derived.Test.YtdkdgbiagjflgaaDoorBytesT
import Derived.OwnWalk
import Derived.Laws.BytesString
import Derived.Laws.IdiomStrings
namespace Go.Proofs.YtdkdgbiagjflgaaDoor
open Go.RowKit
/-- A slice of bytes comes back. -/
def BytesRet (l : List UInt8) (w : World) (e : Ending) (w' : World) : Prop := ∃ a cap, e = .returned (.slice a l.length cap) ∧ l.length ≤ cap ∧ Below w.heap.size w w' ∧ BytesAt w' a l
theorem ret_bytes {w : World} {B : Nat} {v : Value} {l : List UInt8} (h : w.ownsRow B 5 1 v l.length (Lib.byteCells l)) : ∃ a cap, v = .slice a l.length cap ∧ l.length ≤ cap ∧ BytesAt w a l := by
  obtain ⟨_, ⟨rfl, h0⟩ | ⟨g, cap, cur, rfl, _, hg, hn, hm, hs, ht⟩⟩ := h
  · refine ⟨none, 0, by rw [h0], by omega, ?_⟩
    have : l = [] := List.eq_nil_of_length_eq_zero h0
    subst this; exact ⟨by simp, .inl rfl⟩
  · refine ⟨_, _, rfl, hn, by omega, .inr ⟨g, 0, rfl, ?_, ?_⟩⟩
    · rcases Nat.lt_or_ge g w.heap.size with h' | h'
      · exact h'
      · simp [Array.getElem?_eq_none h'] at hg
    · intro i hi
      have e : (cur.toList.take (l.length * 1))[i]? = (Lib.byteCells l)[i]? := by rw [ht]
      rw [List.getElem?_take, if_pos (by omega)] at e
      simp only [World.cell?, hg, Nat.zero_add, Option.isSome_none, Bool.false_eq_true, if_false]
      rw [← Array.getElem?_toList, e]
      simp [Lib.byteCells, List.getElem?_eq_getElem hi]
theorem own_ge {w : World} {B : Nat} {v : Value} {n : Nat} {xs : List Value} (h : w.ownsRow B 5 1 v n xs) : ∀ g, v.ownBlock = some g → B ≤ g := by
  intro g hg
  obtain ⟨_, ⟨rfl, _⟩ | ⟨g', cap, cur, rfl, hB, _⟩⟩ := h
  · simp [Value.ownBlock] at hg
  · simp [Value.ownBlock] at hg; omega
theorem own_below {w w' : World} {B : Nat} {v : Value} {n : Nat} {xs : List Value} (h : w.ownsRow B 5 1 v n xs) (hb : Below w.heap.size w w') : w'.ownsRow B 5 1 v n xs := by
  obtain ⟨h1, h2⟩ := h
  refine ⟨h1, ?_⟩
  rcases h2 with h2 | ⟨g, cap, cur, rfl, hB, hg, hr⟩
  · exact .inl h2
  · exact .inr ⟨g, cap, cur, rfl, hB, (hb.block g (Array.getElem?_eq_some_iff.1 hg).1).trans hg, hr⟩
theorem new_block (w : World) (o : Obj) : (w.alloc o).heap[w.heap.size]? = some o := by
  show (w.heap.push o)[w.heap.size]? = some o
  simp
theorem conv_bytes {w : World} {a : Option Addr} {l : List UInt8} (h : BytesAt w a l) (cap : Nat) : (convert 47 9 (.slice a l.length cap)).run Tryd.prog w = .ok (.string ⟨l.toArray⟩) w := by
  obtain ⟨_, h3⟩ := h
  rcases h3 with rfl | ⟨b, off, rfl, _, hc⟩
  · rw [run_convert_bytes_string w _ _ _ _ _ _ Tryd.underlying47 Tryd.underlying5 Tryd.underlying9]
    cases a with
    | none => rfl
    | some a => rfl
  · exact run_convert_bytes_back w _ _ _ _ _ l Tryd.underlying47 Tryd.underlying5 Tryd.underlying9 fun j hj => by rw [Go.WideShapes.add_plain]; exact hc j hj
end Go.Proofs.YtdkdgbiagjflgaaDoor
