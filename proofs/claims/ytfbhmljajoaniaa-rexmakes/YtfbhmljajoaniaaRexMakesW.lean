/- quilllaw03.RexMakes, walked. -/
import Derived.Test.YtfbhmljajoaniaaRexQ
import Derived.Test.YtfbhmljajoaniaaRexSameW
namespace Go.Proofs.Ytfbhmljajoaniaa
open Go.RowKit
/-- The set's block, and all that was there. -/
def BxS (w W : World) (s : Ws) : Prop := Below w.heap.size w W ∧ Box W w.heap.size s
theorem BxS.go {w W W' : World} {s : Ws} (h : BxS w W s) (hb : Below W.heap.size W W') : BxS w W' s :=
  ⟨h.1.trans (hb.mono h.1.size), h.2.below hb h.2.lt⟩
theorem BxS.new (w : World) (a b c d : Nat) : BxS w (w.alloc (.cells #[.int .u64 a, .int .u64 b, .int .u64 c, .int .u64 d] 28)) ⟨a, b, c, d⟩ := ⟨(Below.refl _ w).alloc (Nat.le_refl _) _, Box.new4 w a b c d⟩
theorem keepX {w W w1 : World} {g : Nat} {s : Ws} (hB : Box w g s) (h : Below w.heap.size w W) (hb : Below W.heap.size W w1) :
    (w1.cell? ⟨g, 0, none⟩ = some (.int .u64 s.a) ∧ w1.cell? ⟨g, 1, none⟩ = some (.int .u64 s.b) ∧ w1.cell? ⟨g, 2, none⟩ = some (.int .u64 s.c) ∧ w1.cell? ⟨g, 3, none⟩ = some (.int .u64 s.d)) ∧ Below w.heap.size w w1 := by
  have h1 := h.trans (hb.mono h.size)
  exact ⟨(hB.below h1 hB.lt).cells, h1⟩
set_option maxHeartbeats 4000000 in
set_option maxRecDepth 100000 in
theorem rexMakes_walk {ok : Nat → Prop} (al : Option Addr) (cap : Nat) (l : List Rx) (s : Ws) (word : ByteArray) (w : World) (hl : l.length < 2199023255552) (hcap : l.length ≤ cap) (hR : RowAt ok w al l) (hs : s.Ok) (hwd : word.size ≤ maxLen) :
    Calls Try.prog 5 #[.slice al l.length cap, s.v, .string word] w fun e w' => e = .returned (.bool true) ∧ Below w.heap.size w w' := by
  have KG := Lib.hid fun W (hb : Below w.heap.size w W) => greatAll_any l 200 al cap W (hR.below hb) hl (by decide)
  have KT := Lib.hid fun W (hb : Below w.heap.size w W) => then_any l al cap W hl (hR.below hb)
  have KO := Lib.hid fun W (hb : Below w.heap.size w W) => or_any l al cap W hl (hR.below hb)
  have KF4 := Lib.hid fun W (hb : Below w.heap.size w W) => refFold_any 4 2 (.inl ⟨rfl, rfl⟩) l ok al cap W hl hcap (hR.below hb)
  have KF5 := Lib.hid fun W (hb : Below w.heap.size w W) => refFold_any 5 1 (.inr ⟨rfl, rfl⟩) l ok al cap W hl hcap (hR.below hb)
  have KS := Lib.hid fun (a : Rx) (ok1 ok2 : Nat → Prop) (v u : Value) (W : World) (h : ReAt ok1 W v a) (h' : ReAt ok2 W u a) => refSame a a v u W h h'
  simp only [sameR_self] at KS
  rw [show ((4 : Nat) : Int) = 4 from rfl] at KF4
  rw [show ((5 : Nat) : Int) = 5 from rfl] at KF5
  have KA := Lib.hid awake_any
  have KX := Lib.hid fun W => ofX_any s W hs
  have KY := Lib.hid fun W => refOfR_any s W hs
  have hW : word.size ≤ 100 → word.size < 2199023255552 := fun h => by omega
  have KW := Lib.hid fun (h : word.size ≤ 100) W => word_any word W (hW h)
  have KV := Lib.hid fun (h : word.size ≤ 100) W => refWord_any word W (by omega)
  unfold maxLen at hwd
  generalize foldR 4 2 l = R4 at *
  generalize foldR 5 1 l = R5 at *
  generalize ofR s = RS at *
  generalize foldR 4 2 (wordL word) = RW at *
  obtain ⟨sa, sb, sc, sd⟩ := s
  have B := Lib.hid (BxS.new w sa sb sc sd)
  unfold Ws.v at KX KY ⊢
  clear hR hs
  simp only at KX KY
  go_enter Try.func5, Try.ntmps5
  go_wp2_with fail
  refine (KG.out _ B.out.1).mono ?_
  rintro e w1 ⟨q, rfl, -, -, hb⟩
  replace B := Lib.hid (B.out.go hb)
  clear hb
  have awk : ∀ W, BxS w W ⟨sa, sb, sc, sd⟩ → Calls Try.prog 9 #[] W fun e w' => e = .returned (.bool true) ∧ Below w.heap.size w w' := fun W h => (KA.out W).mono fun e w' ⟨h1, h2⟩ => ⟨h1, (h.go h2).1⟩
  have AWK := Lib.hid awk
  clear awk
  cases q with
  | true =>
    go_wp2_with fail
    refine (AWK.out _ B.out).mono ?_
    rintro e w2 ⟨rfl, hb⟩
    go_wp2
    go_ret
    exact ⟨rfl, hb⟩
  | false =>
    by_cases h100 : 100 < word.size
    · have d1 : decide ((100 : Int) < (word.size : Int)) = true := by simp; omega
      go_wp2_with fail
      refine (AWK.out _ B.out).mono ?_
      rintro e w2 ⟨rfl, hb⟩
      go_wp2
      go_ret
      exact ⟨rfl, hb⟩
    · have d1 : decide ((100 : Int) < (word.size : Int)) = false := by simp; omega
      have h100' : word.size ≤ 100 := by omega
      go_wp2_with fail
      have hB0 := B.out.2
      have hbW := B.out.1
      have HB0 := Lib.hid hB0
      clear hB0
      go_region_held3 (fun x => (x.cell? ⟨w.heap.size, 0, none⟩ = some (.int .u64 sa) ∧ x.cell? ⟨w.heap.size, 1, none⟩ = some (.int .u64 sb) ∧ x.cell? ⟨w.heap.size, 2, none⟩ = some (.int .u64 sc) ∧ x.cell? ⟨w.heap.size, 3, none⟩ = some (.int .u64 sd)) ∧ Below w1.heap.size w1 x) (first | assumption | exact ⟨HB0.out.cells, (Below.refl _ _).drew⟩ | exact keepX HB0.out (And.right (by assumption)) (by assumption))
        (first
        | (go_at_call 17; (with_reducible refine (KT.out _ (hbW.trans (Below.mono (And.right (by assumption)) hbW.size))).mono ?_); (rintro e wx ⟨vx, rfl, hvx, hbx⟩); (obtain ⟨x0, x1, x2, x3, x4, xl, xn, xc, rfl⟩ := cells_re hvx))
        | (go_at_call 18; (with_reducible refine (KF4.out _ (hbW.trans (Below.mono (And.right (by assumption)) hbW.size))).mono ?_); (rintro e wy ⟨vy, rfl, hvy, hby⟩); (obtain ⟨y0, y1, y2, y3, y4, yl, yn, yc, rfl⟩ := cells_re hvy))
        | (go_at_call 15; (with_reducible refine (KS.out _ _ _ _ _ _ (hvx.below hby) hvy).mono ?_); (rintro e wxy ⟨rfl, hbxy⟩))
        | (go_at_call 19; (with_reducible refine (KO.out _ (hbW.trans (Below.mono (And.right (by assumption)) hbW.size))).mono ?_); (rintro e wz ⟨vz, rfl, hvz, hbz⟩); (obtain ⟨z0, z1, z2, z3, z4, zl, zn, zc, rfl⟩ := cells_re hvz))
        | (go_at_call 18; (with_reducible refine (KF5.out _ (hbW.trans (Below.mono (And.right (by assumption)) hbW.size))).mono ?_); (rintro e wt ⟨vt, rfl, hvt, hbt⟩); (obtain ⟨t0, t1, t2, t3, t4, tl, tn, tc, rfl⟩ := cells_re hvt))
        | (go_at_call 15; (with_reducible refine (KS.out _ _ _ _ _ _ (hvz.below hbt) hvt).mono ?_); (rintro e wzt ⟨rfl, hbzt⟩))
        | (go_at_call 20; (with_reducible refine (KX.out _).mono ?_); (rintro e wp ⟨vp, rfl, hvp, hbp⟩); (obtain ⟨p0, p1, p2, p3, p4, pl, pn, pc, rfl⟩ := cells_re hvp))
        | (go_at_call 21; (with_reducible refine (KY.out _).mono ?_); (rintro e wr ⟨vr, rfl, hvr, hbr⟩); (obtain ⟨r0, r1, r2, r3, r4, rl, rn, rc, rfl⟩ := cells_re hvr))
        | (go_at_call 15; (with_reducible refine (KS.out _ _ _ _ _ _ (hvp.below hbr) hvr).mono ?_); (rintro e wpr ⟨rfl, hbpr⟩)))
      all_goals
        obtain ⟨-, hbx⟩ := ‹_ ∧ Below w1.heap.size w1 _›
        replace B := Lib.hid (B.out.go hbx)
        clear hbx hvx hvy hvz hvt hvp hvr hbW HB0
        go_wp2_with fail
        refine (KW.out h100' _).mono ?_
        rintro e w2 ⟨v, rfl, hv, hb⟩
        obtain ⟨x0, x1, x2, x3, x4, xl, xn, xc, rfl⟩ := cells_re hv
        replace B := Lib.hid (B.out.go hb)
        have HV := Lib.hid hv
        clear hb hv
        go_wp2_with fail
        refine (KV.out h100' _).mono ?_
        rintro e w3 ⟨v, rfl, hv, hb⟩
        obtain ⟨y0, y1, y2, y3, y4, yl, yn, yc, rfl⟩ := cells_re hv
        replace B := Lib.hid (B.out.go hb)
        have K := Lib.hid (KS.out _ _ _ _ _ _ (HV.out.below hb) hv)
        clear hb hv HV
        go_wp2_with fail
        refine K.out.mono ?_
        rintro e w4 ⟨rfl, hb⟩
        replace B := Lib.hid (B.out.go hb)
        clear hb K
        go_wp2_with fail
        refine (KT.out _ B.out.1).mono ?_
        rintro e w2 ⟨v, rfl, hv, hb⟩
        obtain ⟨x0, x1, x2, x3, x4, xl, xn, xc, rfl⟩ := cells_re hv
        replace B := Lib.hid (B.out.go hb)
        have K := Lib.hid (manyX_any _ _ _ hv)
        clear hb hv
        go_wp2_with fail
        refine K.out.mono ?_
        rintro e w3 ⟨v, rfl, hv, hb⟩
        obtain ⟨y0, y1, y2, y3, y4, yl, yn, yc, rfl⟩ := cells_re hv
        replace B := Lib.hid (B.out.go hb)
        have HV := Lib.hid hv
        clear hb hv K
        go_wp2_with fail
        refine (KF4.out _ B.out.1).mono ?_
        rintro e w5 ⟨v, rfl, hv, hb⟩
        obtain ⟨z0, z1, z2, z3, z4, zl, zn, zc, rfl⟩ := cells_re hv
        replace B := Lib.hid (B.out.go hb)
        have HV2 := Lib.hid (HV.out.below hb)
        have K := Lib.hid (many_any _ _ _ hv)
        clear hb hv HV
        go_wp2_with fail
        refine K.out.mono ?_
        rintro e w6 ⟨v, rfl, hv, hb⟩
        obtain ⟨t0, t1, t2, t3, t4, tl, tn, tc, rfl⟩ := cells_re hv
        replace B := Lib.hid (B.out.go hb)
        replace K := Lib.hid (KS.out _ _ _ _ _ _ (HV2.out.below hb) hv)
        clear hb hv HV2
        go_wp2_with fail
        refine K.out.mono ?_
        rintro e w7 ⟨rfl, hb⟩
        replace B := Lib.hid (B.out.go hb)
        clear hb K
        go_wp2_with fail
        refine (AWK.out _ B.out).mono ?_
        rintro e w8 ⟨rfl, hb⟩
        go_wp2
        go_ret
        exact ⟨rfl, hb⟩
end Go.Proofs.Ytfbhmljajoaniaa
