/- quilllaw02.awake: the document's examples. -/
import Derived.Test.YtfjagcfbnnbpeaaDoorSetO
namespace Go.Proofs.YtfjagcfbnnbpeaaDoor
open Go.RowKit
theorem ex1 : textW (rangeW 97 122) = [91, 97, 45, 122, 93] := by decide +kernel
theorem ex2 : textW (ofN (natsOf [UInt8.ofNat 32])) = [92, 50, 48] := by decide +kernel
set_option maxHeartbeats 1000000 in
theorem awake_any (w : World) (hT : Tab w) :
    Calls Tryd.prog 8 #[] w fun e w' => e = .returned (.bool true) ∧ Below w.heap.size w w' := by
  have HT := Lib.hid hT
  clear hT
  go_enter Tryd.func8, Tryd.ntmps8
  go_wp2_with fail
  refine (range_any 97 122 _ (by decide) (by decide)).mono ?_
  rintro e w1 ⟨rfl, hb1⟩
  go_wp2_with fail
  refine (text_any (rangeW 97 122) _ (ofN_ok _) (HT.out.below hb1 HT.out.1)).mono ?_
  rintro e w2 ⟨rfl, hb2⟩
  replace hb2 := hb1.trans (hb2.mono hb1.size)
  clear hb1
  rw [ex1]
  go_wp2_with fail
  refine (setOf_any _ [UInt8.ofNat 32] _ _ (one_byte _ 32 (by decide))).mono ?_
  rintro e w3 ⟨rfl, hb3⟩
  have hb3' : Below w.heap.size w w3 := (hb2.alloc hb2.size _).trans (hb3.mono (by have := hb2.size; simp; omega))
  clear hb3
  go_wp2_with fail
  refine (text_any (ofN (natsOf [UInt8.ofNat 32])) _ (ofN_ok _) (HT.out.below hb3' HT.out.1)).mono ?_
  rintro e w4 ⟨rfl, hb4⟩
  rw [ex2]
  go_wp2
  go_ret
  exact ⟨rfl, hb3'.trans (hb4.mono hb3'.size)⟩
end Go.Proofs.YtfjagcfbnnbpeaaDoor
