/- The document's example of the order. -/
import Derived.Test.YthkkeamjigmfhaaOrdT
namespace Go.Proofs.Ythkkeamjigmfhaa
open Go.RowKit
theorem ord_a : ordR (.node 1 Ws.nil []) (.node 2 Ws.nil []) = -1 := by simp [ordR, lexI, cmpN]
theorem ord_b : ordR (.node 6 Ws.nil [.node 1 Ws.nil []]) (.node 2 Ws.nil []) = 1 := by simp [ordR, lexI, cmpN]
set_option maxHeartbeats 2000000 in
theorem awake4_any (w : World) :
    Calls Try.prog 8 #[] w fun e w' => e = .returned (.bool true) ∧ Below w.heap.size w w' := by
  have B1 := Lib.hid fun W => bare_any 1 W (by decide)
  have B2 := Lib.hid fun W => bare_any 2 W (by decide)
  go_enter Try.func8, Try.ntmps8
  go_wp2_with fail
  refine (B1.out _).mono ?_
  rintro e w1 ⟨v1, rfl, h1, hb1⟩
  obtain ⟨a0, a1, a2, a3, a4, al, an, ac, rfl⟩ := cells_re h1
  have H1 := Lib.hid h1
  clear h1
  go_wp2_with fail
  refine (B2.out _).mono ?_
  rintro e w2 ⟨v2, rfl, h2, hb2⟩
  obtain ⟨b0, b1, b2, b3, b4, bl, bn, bc, rfl⟩ := cells_re h2
  have T := Lib.hid (twoX _ _ _ _ w2 (H1.out.below hb2) h2)
  rw [ord_a] at T
  replace hb1 := hb1.trans (hb2.mono hb1.size)
  clear h2 hb2 H1
  go_wp2_with fail
  refine T.out.mono ?_
  rintro e w3 ⟨rfl, hb⟩
  replace hb1 := hb1.trans (hb.mono hb1.size)
  clear hb T
  go_wp2_with fail
  refine (B1.out _).mono ?_
  rintro e w4 ⟨v1, rfl, h1, hb⟩
  obtain ⟨a0, a1, a2, a3, a4, al, an, ac, rfl⟩ := cells_re h1
  replace hb1 := hb1.trans (hb.mono hb1.size)
  have M := Lib.hid (many_any _ _ _ h1)
  clear h1 hb
  go_wp2_with fail
  refine M.out.mono ?_
  rintro e w5 ⟨v1, rfl, h1, hb⟩
  obtain ⟨c0, c1, c2, c3, c4, cl, cn, cc, rfl⟩ := cells_re h1
  replace hb1 := hb1.trans (hb.mono hb1.size)
  have H1 := Lib.hid h1
  clear h1 hb M
  go_wp2_with fail
  refine (B2.out _).mono ?_
  rintro e w6 ⟨v2, rfl, h2, hb⟩
  obtain ⟨e0, e1, e2, e3, e4, el, en, ec, rfl⟩ := cells_re h2
  have T := Lib.hid (twoX _ _ _ _ w6 (H1.out.below hb) h2)
  rw [ord_b] at T
  replace hb1 := hb1.trans (hb.mono hb1.size)
  clear h2 hb H1
  go_wp2_with fail
  refine T.out.mono ?_
  rintro e w7 ⟨rfl, hb⟩
  replace hb1 := hb1.trans (hb.mono hb1.size)
  clear hb T
  go_wp2
  go_ret
  exact ⟨rfl, hb1⟩
end Go.Proofs.Ythkkeamjigmfhaa
