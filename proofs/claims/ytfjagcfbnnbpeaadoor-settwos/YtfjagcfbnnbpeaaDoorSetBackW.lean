/- quilllaw02.SetBack, walked. -/
import Derived.Test.YtfjagcfbnnbpeaaDoorSetAw
namespace Go.Proofs.YtfjagcfbnnbpeaaDoor
open Go.RowKit
/-- Two blocks with sets stay, whatever is made behind them. -/
theorem keep2 {w W w1 : World} {g g' : Nat} {s t : Ws} (hB : Box w g s) (hB' : Box w g' t) (h : Below w.heap.size w W) (hb : Below W.heap.size W w1) :
    (w1.cell? ⟨g, 0, none⟩ = some (.int .u64 s.a) ∧ w1.cell? ⟨g, 1, none⟩ = some (.int .u64 s.b) ∧ w1.cell? ⟨g, 2, none⟩ = some (.int .u64 s.c) ∧ w1.cell? ⟨g, 3, none⟩ = some (.int .u64 s.d)) ∧
    (w1.cell? ⟨g', 0, none⟩ = some (.int .u64 t.a) ∧ w1.cell? ⟨g', 1, none⟩ = some (.int .u64 t.b) ∧ w1.cell? ⟨g', 2, none⟩ = some (.int .u64 t.c) ∧ w1.cell? ⟨g', 3, none⟩ = some (.int .u64 t.d)) ∧ Below w.heap.size w w1 := by
  have h2 := h.trans (hb.mono h.size)
  exact ⟨(hB.below h2 hB.lt).cells, (hB'.below h2 hB'.lt).cells, h2⟩
set_option maxHeartbeats 2000000 in
set_option maxRecDepth 100000 in
theorem setBack_eq (s : Ws) (w : World) (hs : s.Ok) (hT : Tab w) :
    Calls Tryd.prog 7 #[s.v, s.v] w fun e w' => e = .returned (.bool true) ∧ Below w.heap.size w w' := by
  have q1 := eqW_yes s
  have kB := fun W (h : Tab W) => bytes_any s W hs h
  have kT := fun W (h : Tab W) => text_any s W hs h
  have kO := fun W => order_any s s W
  rw [(ordW_zero s s).2 rfl] at kO
  have kF := fun W al cap (h : BytesAt W al (u8s (bytesN s))) => setOf_any al (u8s (bytesN s)) cap W h
  have hof : ofN (natsOf (u8s (bytesN s))) = s := by
    unfold natsOf; rw [u8s_nats _ (bytesN_lt s), of_bytesN hs]
  rw [hof] at kF
  have HT := Lib.hid hT
  generalize (textW s) = X at *
  generalize u8s (bytesN s) = L8 at *
  clear hof hT
  obtain ⟨a, b, c, d⟩ := s
  unfold Ws.v at *
  have KB := Lib.hid kB
  have KT := Lib.hid kT
  have KO := Lib.hid kO
  have KF := Lib.hid kF
  clear kB kT kO kF
  go_enter Tryd.func7, Tryd.ntmps7
  go_wp2_with fail
  have hB0 : Box ((w.alloc (.cells #[.int .u64 a, .int .u64 b, .int .u64 c, .int .u64 d] 26)).alloc (.cells #[.int .u64 a, .int .u64 b, .int .u64 c, .int .u64 d] 26)) w.heap.size ⟨a, b, c, d⟩ := (Box.new4 w a b c d).alloc _
  have hB1 : Box ((w.alloc (.cells #[.int .u64 a, .int .u64 b, .int .u64 c, .int .u64 d] 26)).alloc (.cells #[.int .u64 a, .int .u64 b, .int .u64 c, .int .u64 d] 26)) (w.heap.size + 1) ⟨a, b, c, d⟩ := by
    have := Box.new4 (w.alloc (.cells #[.int .u64 a, .int .u64 b, .int .u64 c, .int .u64 d] 26)) a b c d
    simpa using this
  have hbw : Below w.heap.size w ((w.alloc (.cells #[.int .u64 a, .int .u64 b, .int .u64 c, .int .u64 d] 26)).alloc (.cells #[.int .u64 a, .int .u64 b, .int .u64 c, .int .u64 d] 26)) := ((Below.refl _ w).alloc (Nat.le_refl _) _).alloc (by simp) _
  have hTW := HT.out.below hbw HT.out.1
  generalize hW : (w.alloc (.cells #[.int .u64 a, .int .u64 b, .int .u64 c, .int .u64 d] 26)).alloc (.cells #[.int .u64 a, .int .u64 b, .int .u64 c, .int .u64 d] 26) = W at *
  have HTW := Lib.hid hTW
  clear hW hTW
  obtain ⟨⟨c0, c1, c2, c3⟩, -⟩ := hB0.all
  obtain ⟨⟨d0, d1, d2, d3⟩, -⟩ := hB1.all
  go_region_held3 (fun w' => (w'.cell? ⟨w.heap.size, 0, none⟩ = some (.int .u64 a) ∧ w'.cell? ⟨w.heap.size, 1, none⟩ = some (.int .u64 b) ∧ w'.cell? ⟨w.heap.size, 2, none⟩ = some (.int .u64 c) ∧ w'.cell? ⟨w.heap.size, 3, none⟩ = some (.int .u64 d)) ∧ (w'.cell? ⟨w.heap.size + 1, 0, none⟩ = some (.int .u64 a) ∧ w'.cell? ⟨w.heap.size + 1, 1, none⟩ = some (.int .u64 b) ∧ w'.cell? ⟨w.heap.size + 1, 2, none⟩ = some (.int .u64 c) ∧ w'.cell? ⟨w.heap.size + 1, 3, none⟩ = some (.int .u64 d)) ∧ Below W.heap.size W w') (first | exact ⟨⟨c0, c1, c2, c3⟩, ⟨d0, d1, d2, d3⟩, (Below.refl _ _).drew⟩ | exact keep2 hB0 hB1 (And.right (And.right (by assumption))) (by assumption))
    (first
      | (go_at_call 24; (with_reducible refine (KB.out _ ?_).mono ?_); (exact HTW.out.below (And.right (And.right (by assumption))) HTW.out.1); rintro e w' ⟨al, cap, rfl, -, hbb, hat⟩)
      | (go_at_call 9; (with_reducible refine (KF.out _ _ _ (by assumption)).mono ?_); rintro e w' ⟨rfl, hbb⟩)
      | (go_at_call 25; (with_reducible refine (KT.out _ ?_).mono ?_); (exact HTW.out.below (And.right (And.right (by assumption))) HTW.out.1); rintro e w' ⟨rfl, hbb⟩)
      | (go_at_call 20; (with_reducible refine (KO.out _).mono ?_); rintro e w' ⟨rfl, hbb⟩)
      | (go_at_call 8; (refine (awake_any _ ?_).mono ?_); (exact HTW.out.below (And.right (And.right (by assumption))) HTW.out.1); rintro e w' ⟨rfl, hbb⟩))
  obtain ⟨-, -, hbx⟩ := ‹_ ∧ _ ∧ Below W.heap.size W _›
  go_wp2
  go_ret
  exact ⟨rfl, hbw.trans (hbx.mono hbw.size)⟩
set_option maxHeartbeats 2000000 in
set_option maxRecDepth 100000 in
theorem setBack_ne (s t : Ws) (w : World) (hs : s.Ok) (ht : t.Ok) (hT : Tab w) (hne : s ≠ t) :
    Calls Tryd.prog 7 #[s.v, t.v] w fun e w' => e = .returned (.bool true) ∧ Below w.heap.size w w' := by
  have q1 := eqW_yes s
  have kB := fun W (h : Tab W) => bytes_any s W hs h
  have kT := fun W (h : Tab W) => text_any s W hs h
  have kU := fun W (h : Tab W) => text_any t W ht h
  have kO := fun W => order_any s t W
  have q2 := eqW_no hne
  have ho : ((ordW s t : Int) == 0) = false := by
    have : ordW s t ≠ 0 := fun e => hne ((ordW_zero s t).1 e)
    simpa using this
  have hXY : (textW s == textW t) = false := by
    have : textW s ≠ textW t := fun e => hne (textW_inj hs ht e)
    simpa using this
  have kF := fun W al cap (h : BytesAt W al (u8s (bytesN s))) => setOf_any al (u8s (bytesN s)) cap W h
  have hof : ofN (natsOf (u8s (bytesN s))) = s := by
    unfold natsOf; rw [u8s_nats _ (bytesN_lt s), of_bytesN hs]
  rw [hof] at kF
  have HT := Lib.hid hT
  generalize textW s = X at *
  generalize textW t = Y at *
  generalize ordW s t = o at *
  generalize u8s (bytesN s) = L8 at *
  clear hof hT hne
  obtain ⟨a, b, c, d⟩ := s
  obtain ⟨a', b', c', d'⟩ := t
  unfold Ws.v at *
  have KB := Lib.hid kB
  have KT := Lib.hid kT
  have KU := Lib.hid kU
  have KO := Lib.hid kO
  have KF := Lib.hid kF
  clear kB kT kO kF kU
  go_enter Tryd.func7, Tryd.ntmps7
  go_wp2_with fail
  have hB0 : Box ((w.alloc (.cells #[.int .u64 a, .int .u64 b, .int .u64 c, .int .u64 d] 26)).alloc (.cells #[.int .u64 a', .int .u64 b', .int .u64 c', .int .u64 d'] 26)) w.heap.size ⟨a, b, c, d⟩ := (Box.new4 w a b c d).alloc _
  have hB1 : Box ((w.alloc (.cells #[.int .u64 a, .int .u64 b, .int .u64 c, .int .u64 d] 26)).alloc (.cells #[.int .u64 a', .int .u64 b', .int .u64 c', .int .u64 d'] 26)) (w.heap.size + 1) ⟨a', b', c', d'⟩ := by
    have := Box.new4 (w.alloc (.cells #[.int .u64 a, .int .u64 b, .int .u64 c, .int .u64 d] 26)) a' b' c' d'
    simpa using this
  have hbw : Below w.heap.size w ((w.alloc (.cells #[.int .u64 a, .int .u64 b, .int .u64 c, .int .u64 d] 26)).alloc (.cells #[.int .u64 a', .int .u64 b', .int .u64 c', .int .u64 d'] 26)) := ((Below.refl _ w).alloc (Nat.le_refl _) _).alloc (by simp) _
  have hTW := HT.out.below hbw HT.out.1
  generalize hW : (w.alloc (.cells #[.int .u64 a, .int .u64 b, .int .u64 c, .int .u64 d] 26)).alloc (.cells #[.int .u64 a', .int .u64 b', .int .u64 c', .int .u64 d'] 26) = W at *
  have HTW := Lib.hid hTW
  clear hW hTW
  obtain ⟨⟨c0, c1, c2, c3⟩, -⟩ := hB0.all
  obtain ⟨⟨d0, d1, d2, d3⟩, -⟩ := hB1.all
  go_region_held3 (fun w' => (w'.cell? ⟨w.heap.size, 0, none⟩ = some (.int .u64 a) ∧ w'.cell? ⟨w.heap.size, 1, none⟩ = some (.int .u64 b) ∧ w'.cell? ⟨w.heap.size, 2, none⟩ = some (.int .u64 c) ∧ w'.cell? ⟨w.heap.size, 3, none⟩ = some (.int .u64 d)) ∧ (w'.cell? ⟨w.heap.size + 1, 0, none⟩ = some (.int .u64 a') ∧ w'.cell? ⟨w.heap.size + 1, 1, none⟩ = some (.int .u64 b') ∧ w'.cell? ⟨w.heap.size + 1, 2, none⟩ = some (.int .u64 c') ∧ w'.cell? ⟨w.heap.size + 1, 3, none⟩ = some (.int .u64 d')) ∧ Below W.heap.size W w') (first | exact ⟨⟨c0, c1, c2, c3⟩, ⟨d0, d1, d2, d3⟩, (Below.refl _ _).drew⟩ | exact keep2 hB0 hB1 (And.right (And.right (by assumption))) (by assumption))
    (first
      | (go_at_call 24; (with_reducible refine (KB.out _ ?_).mono ?_); (exact HTW.out.below (And.right (And.right (by assumption))) HTW.out.1); rintro e w' ⟨al, cap, rfl, -, hbb, hat⟩)
      | (go_at_call 9; (with_reducible refine (KF.out _ _ _ (by assumption)).mono ?_); rintro e w' ⟨rfl, hbb⟩)
      | (go_at_call 25; (with_reducible refine (KT.out _ ?_).mono ?_); (exact HTW.out.below (And.right (And.right (by assumption))) HTW.out.1); rintro e w' ⟨rfl, hbb⟩)
      | (go_at_call 25; (with_reducible refine (KU.out _ ?_).mono ?_); (exact HTW.out.below (And.right (And.right (by assumption))) HTW.out.1); rintro e w' ⟨rfl, hbb⟩)
      | (go_at_call 20; (with_reducible refine (KO.out _).mono ?_); rintro e w' ⟨rfl, hbb⟩)
      | (go_at_call 8; (refine (awake_any _ ?_).mono ?_); (exact HTW.out.below (And.right (And.right (by assumption))) HTW.out.1); rintro e w' ⟨rfl, hbb⟩))
  obtain ⟨-, -, hbx⟩ := ‹_ ∧ _ ∧ Below W.heap.size W _›
  go_wp2
  go_ret
  exact ⟨rfl, hbw.trans (hbx.mono hbw.size)⟩
theorem setBack_walk (s t : Ws) (w : World) (hs : s.Ok) (ht : t.Ok) (hT : Tab w) :
    Calls Tryd.prog 7 #[s.v, t.v] w fun e w' => e = .returned (.bool true) ∧ Below w.heap.size w w' := by
  by_cases h : s = t
  · subst h; exact setBack_eq s w hs hT
  · exact setBack_ne s t w hs ht hT h
end Go.Proofs.YtfjagcfbnnbpeaaDoor
