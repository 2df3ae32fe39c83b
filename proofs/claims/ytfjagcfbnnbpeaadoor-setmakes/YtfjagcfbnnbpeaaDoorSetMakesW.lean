/- quilllaw02.SetMakes, walked. -/
import Derived.Test.YtfjagcfbnnbpeaaDoorSetAw
namespace Go.Proofs.YtfjagcfbnnbpeaaDoor
open Go.RowKit
set_option maxHeartbeats 2000000 in
set_option maxRecDepth 100000 in
theorem setMakes_walk (al : Option Addr) (l : List UInt8) (cap lo hi n : Nat) (w : World) (h : BytesAt w al l) (hlo : lo < 256) (hhi : hi < 256) (hn : n < 256) (hT : Tab w) :
    Calls Tryd.prog 3 #[.slice al l.length cap, .int .u8 lo, .int .u8 hi, .int .u8 n] w fun e w' => e = .returned (.bool true) ∧ Below w.heap.size w w' := by
  have HT := Lib.hid hT
  have HB := Lib.hid h
  have hl := h.1
  unfold maxLen at hl
  clear hT h
  by_cases h300 : 300 < l.length
  · have d1 : decide ((300 : Int) < (l.length : Int)) = true := by simp; omega
    go_enter Tryd.func3, Tryd.ntmps3
    go_wp2_with fail
    refine (awake_any _ HT.out).mono ?_
    rintro e w1 ⟨rfl, hb⟩
    go_wp2
    go_ret
    exact ⟨rfl, hb⟩
  have d1 : decide ((300 : Int) < (l.length : Int)) = false := by simp; omega
  have kF := setOf_any al l cap w HB.out
  have kRF := fun W (h : BytesAt W al l) => refOf_any al l cap W h
  have hok := ofN_ok (natsOf l)
  generalize ofN (natsOf l) = s at *
  have q1 := eqW_yes s
  have q2 := eqW_yes (rangeW lo hi)
  have kR := fun W => range_any lo hi W hlo hhi
  have kRR := fun W => refRange_any lo hi W hlo hhi
  have kH := fun W => has_any s n W hok hn
  have kRH := fun W => refHas_any s n W hok hn
  generalize s.has n = q at *
  obtain ⟨AR, hAR⟩ : ∃ AR, (rangeW lo hi).v = .agg AR := ⟨_, rfl⟩
  rw [hAR] at q2 kR kRR
  clear hAR
  obtain ⟨a, b, c, d⟩ := s
  unfold Ws.v at *
  have KF := Lib.hid kF
  have KRF := Lib.hid kRF
  have KR := Lib.hid kR
  have KRR := Lib.hid kRR
  have KH := Lib.hid kH
  have KRH := Lib.hid kRH
  clear kF kRF kR kRR kH kRH hok
  go_enter Tryd.func3, Tryd.ntmps3
  go_wp2_with fail
  refine KF.out.mono ?_
  rintro e w1 ⟨rfl, hb1⟩
  have hB0 := Box.new4 w1 a b c d
  have hbw := hb1.alloc hb1.size (.cells #[.int .u64 a, .int .u64 b, .int .u64 c, .int .u64 d] 26)
  have hBW := HB.out.below hbw
  have hTW := HT.out.below hbw HT.out.1
  go_wp2_with fail
  generalize hW : w1.alloc (.cells #[.int .u64 a, .int .u64 b, .int .u64 c, .int .u64 d] 26) = W at *
  have HTW := Lib.hid hTW
  have HBW := Lib.hid hBW
  have HB0 := Lib.hid hB0
  have wlo : IntKind.i64.wrap (lo : Int) = lo := IntWalk.i64_in _ (by omega)
  have whi : IntKind.i64.wrap (hi : Int) = hi := IntWalk.i64_in _ (by omega)
  have wn : IntKind.i64.wrap (n : Int) = n := IntWalk.i64_in _ (by omega)
  clear hW hTW hBW hB0 hb1 HB HT KF
  go_region_held3 (fun x => (x.cell? ⟨w1.heap.size, 0, none⟩ = some (.int .u64 a) ∧ x.cell? ⟨w1.heap.size, 1, none⟩ = some (.int .u64 b) ∧ x.cell? ⟨w1.heap.size, 2, none⟩ = some (.int .u64 c) ∧ x.cell? ⟨w1.heap.size, 3, none⟩ = some (.int .u64 d)) ∧ Below W.heap.size W x) (first | assumption | exact ⟨HB0.out.cells, (Below.refl _ _).drew⟩ | exact keepX HB0.out (And.right (by assumption)) (by assumption))
    (first
      | (go_at_call 10; (with_reducible refine (KRF.out _ ?_).mono ?_); (exact HBW.out.below (And.right (by assumption))); rintro e w' ⟨rfl, hbb⟩)
      | (go_at_call 11; (with_reducible refine (KR.out _).mono ?_); rintro e w' ⟨rfl, hbb⟩)
      | (go_at_call 12; (with_reducible refine (KRR.out _).mono ?_); rintro e w' ⟨rfl, hbb⟩)
      | (go_at_call 13; (with_reducible refine (KH.out _).mono ?_); rintro e w' ⟨rfl, hbb⟩)
      | (go_at_call 14; (with_reducible refine (KRH.out _).mono ?_); rintro e w' ⟨rfl, hbb⟩)
      | (go_at_call 8; (refine (awake_any _ ?_).mono ?_); (exact HTW.out.below (And.right (by assumption)) HTW.out.1); rintro e w' ⟨rfl, hbb⟩))
  all_goals
    obtain ⟨-, hbx⟩ := ‹_ ∧ Below W.heap.size W _›
    go_wp2
    go_ret
    exact ⟨rfl, hbw.trans (hbx.mono hbw.size)⟩
end Go.Proofs.YtfjagcfbnnbpeaaDoor
