/- Lemmas of mine, merged: QuietB. -/
import Derived.Deep.QuietTactic
import Derived.Test.YtfmdcnfniimkoaaGreatBaseAll
/- A region that draws its order, whose operations only read, and whose callees answer plain values and keep all that was there: walked once, in the order of the text. -/
namespace Go.Proofs.YtfmdcnfniimkoaaGreat
open Go.RowKit
/-- A world in which all that was there in w is as it was. -/
structure Bel (w : World) where
  x : World
  h : Below w.heap.size w x
theorem bel_ne (w : World) : Nonempty (Bel w) := ⟨⟨w, Below.refl _ w⟩⟩
theorem wp_region_bel {P : Program} {id : Nat} {Q : Exit → Act → World → Prop} {a : Act} {w : World} {l : List Oper} (hm : P.follows .mixedOrders = true) (hB : Region.lexB .any l.toArray = true)
    (h : wpQuiet P l.toArray (fun w' => ∃ p : Bel w, w' = p.x) (fun a' => ∀ w', (∃ p : Bel w, w' = p.x) → Q .normal a' w') l a) : (Code.region id l.toArray true).wp P Q a w :=
  wp_region_quiet (C := fun w' => ∃ p : Bel w, w' = p.x) hm hB ⟨⟨w.drew, (Below.refl _ w).drew⟩, rfl⟩ (by simpa using h)
theorem bel_of {P : Program} {f : FuncId} {args : Array Value} {w : World} {p : Bel w} {v : Value} (h : Calls P f args p.x fun e w' => e = .returned v ∧ Below p.x.heap.size p.x w') : Calls P f args p.x fun e w'' => e = .returned v ∧ ∃ q : Bel w, w'' = q.x :=
  h.mono fun _ w'' ⟨he, hb⟩ => ⟨he, ⟨w'', p.h.trans (hb.mono p.h.size)⟩, rfl⟩
theorem bel_same {P : Program} {f : FuncId} {args : Array Value} {w : World} {p : Bel w} {v : Value} (h : Calls P f args p.x fun e w' => e = .returned v ∧ w' = p.x) : Calls P f args p.x fun e w'' => e = .returned v ∧ ∃ q : Bel w, w'' = q.x :=
  h.mono fun _ _ ⟨he, hb⟩ => ⟨he, p, hb⟩
theorem bel_cell {w : World} {a : Addr} {v : Value} (hb : a.block < w.heap.size) (h : w.cell? a = some v) (p : Bel w) : p.x.cell? a = some v := (p.h.cell hb).trans h
end Go.Proofs.YtfmdcnfniimkoaaGreat
