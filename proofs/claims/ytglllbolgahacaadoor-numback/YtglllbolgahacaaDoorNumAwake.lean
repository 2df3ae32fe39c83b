import Derived.Test.YtglllbolgahacaaDoorNumHexA
import Derived.Test.YtglllbolgahacaaDoorNumNameC
namespace Go.Proofs.YtglllbolgahacaaDoor
open Go.RowKit
set_option maxHeartbeats 1000000 in
theorem awake_any (w : World) :
    Calls Tryd.prog 5 #[] w fun e w' => e = .returned (.bool true) ∧ Below w.heap.size w w' := by
  go_enter Tryd.func5, Tryd.ntmps5
  go_wp2_with fail
  refine (hex_any _ [255, 10] _ _ ?hx (by decide)).mono ?_
  case hx =>
    refine ⟨by decide, .inr ⟨_, _, rfl, by simp, ?_⟩⟩
    intro i hi
    match i, hi with
    | 0, _ => simp
    | 1, _ => simp
  rintro e w1 ⟨rfl, hb1⟩
  have hs1 := hb1.size
  have hx : (hexL [255, 10]).toArray = #[102, 102, 48, 97] := by decide
  rw [hx]
  go_wp2_with fail
  refine (name_any _ [⟨#[97, 95, 49]⟩] _ _ ?hy).mono ?_
  case hy =>
    refine ⟨?_, by decide, .inr ⟨_, _, rfl, by simp, ?_⟩⟩
    · intro s hs; simp at hs; subst hs; decide
    · intro i hi
      match i, hi with
      | 0, _ => simp
  rintro e w2 ⟨rfl, hb2⟩
  have hn : ([(⟨#[97, 95, 49]⟩ : ByteArray)].all fun s => nameB s.data.toList) = true := by decide
  rw [hn]
  clear hn hx
  go_wp2
  go_ret
  have b1 : Below w.heap.size w w1 := ((Below.refl _ w).alloc (Nat.le_refl _) _).trans (hb1.mono (by simp))
  exact ⟨rfl, (b1.alloc b1.size _).trans (hb2.mono (by have := b1.size; simp; omega))⟩
end Go.Proofs.YtglllbolgahacaaDoor
