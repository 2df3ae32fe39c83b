/- What package show's functions are to answer, as the laws' walks take it; the document's example is taken so, too. -/
import Derived.Test.YtdkdgbiagjflgaaDoorShowB
import Derived.Test.YtdkdgbiagjflgaaDoorRexD
namespace Go.Proofs.YtdkdgbiagjflgaaDoor
open Go.RowKit
def TextC : Prop := ∀ (ok : Nat → Prop) (r : Rx) (v : Value) (w : World), Tab w → r.size ≤ 1000000 → ReAt ok w v r →
    Calls Tryd.prog 10 #[v] w fun x w' => x = .returned (.string ⟨(textX r).toArray⟩) ∧ Below w.heap.size w w'
noncomputable def linesX (l : List Rx) : List UInt8 := l.flatMap fun r => textX r ++ [10]
noncomputable def fitsX (l : List Rx) : Bool := l.all fun r => mayR r && decide ((textX r).length ≤ 65536)
def LinesC : Prop := ∀ (ok : Nat → Prop) (l : List Rx) (al : Option Addr) (cap : Nat) (w : World), Tab w → l.length ≤ 20 → (∀ r ∈ l, r.size ≤ 1000000) → RowAt ok w al l →
    Calls Tryd.prog 11 #[.slice al l.length cap] w fun x w' => x = .returned (.string ⟨(linesX l).toArray⟩) ∧ Below w.heap.size w w'
def FitsC : Prop := ∀ (ok : Nat → Prop) (l : List Rx) (al : Option Addr) (cap : Nat) (w : World), Tab w → l.length ≤ 20 → (∀ r ∈ l, r.size ≤ 1000000) → RowAt ok w al l →
    Calls Tryd.prog 12 #[.slice al l.length cap] w fun x w' => x = .returned (.bool (fitsX l)) ∧ Below w.heap.size w w'
def AwakeC : Prop := ∀ (w : World), Tab w → Calls Tryd.prog 8 #[] w fun x w' => x = .returned (.bool true) ∧ Below w.heap.size w w'
theorem Tab.go {w w' : World} (h : Tab w) (hb : Below w.heap.size w w') : Tab w' := h.below hb h.1
theorem linesX_take (l : List Rx) (i : Nat) (h : i < l.length) : linesX (l.take (i + 1)) = linesX (l.take i) ++ (textX l[i] ++ [10]) := by
  unfold linesX
  rw [List.take_succ_eq_append_getElem h, List.flatMap_append, List.flatMap_cons, List.flatMap_nil, List.append_nil]
theorem fitsX_take (l : List Rx) (i : Nat) (h : i < l.length) : fitsX (l.take (i + 1)) = (fitsX (l.take i) && (mayR l[i] && decide ((textX l[i]).length ≤ 65536))) := by
  unfold fitsX
  rw [List.take_succ_eq_append_getElem h, List.all_append, List.all_cons, List.all_nil, Bool.and_true]
theorem may_text {ok : Nat → Prop} {w : World} {v : Value} {r : Rx} (h : ReAt ok w v r) : mayR r = decide (textX r ≠ []) := by
  by_cases hm : mayR r = true
  · obtain ⟨e, rfl, h1, h2⟩ := may_ex h hm
    rw [hm, textX_yes hm]
    simp [text_ne h1]
  · have hm' : mayR r = false := by simpa using hm
    rw [hm', textX_no hm']; simp
end Go.Proofs.YtdkdgbiagjflgaaDoor
