/- rex.Same. -/
import Derived.Test.YtdkdgbiagjflgaaDoorRexI
namespace Go.Proofs.YtdkdgbiagjflgaaDoor
open Go.RowKit
def equalInv (ks ks' : List Rx) (w : World) (y : Value) (wr : World) : Prop := ∃ i : Nat, i ≤ ks.length ∧ y = .int .i64 i ∧ (∀ j (h1 : j < ks.length) (h2 : j < ks'.length), j < i → sameR ks[j] ks'[j] = true) ∧ Below w.heap.size w wr
theorem refSame {ok ok' : Nat → Prop} (r t : Rx) (v u : Value) (w : World) (h : ReAt ok w v r) (h' : ReAt ok' w u t) :
    Calls Tryd.prog 15 #[v, u] w fun e w' => e = .returned (.bool (sameR r t)) ∧ Below w.heap.size w w' := refSame_any r.size r t (Nat.le_refl _) v u w h h'
end Go.Proofs.YtdkdgbiagjflgaaDoor
