/- quilllaw02.SetTexts, walked. -/
import Derived.Test.YtfjagcfbnnbpeaaDoorSetAw
namespace Go.Proofs.YtfjagcfbnnbpeaaDoor
open Go.RowKit
set_option maxHeartbeats 2000000 in
set_option maxRecDepth 100000 in
theorem setTexts_walk (s : Ws) (n : Nat) (w : World) (hs : s.Ok) (hn : n < 256) (hT : Tab w) :
    Calls Tryd.prog 6 #[s.v, .int .u8 n] w fun e w' => e = .returned (.bool true) ∧ Below w.heap.size w w' := by
  have kB := fun W (h : Tab W) => bytes_any s W hs h
  have kRB := fun W => refBytes_any s W hs
  have kT := fun W (h : Tab W) => text_any s W hs h
  have kRT := fun W => refText_any s W hs
  have kS := fun W => sign_any n W hn
  have kRS := fun W => refSign_any n W hn
  have HT := Lib.hid hT
  generalize textW s = X at *
  generalize signL n = Y at *
  generalize u8s (bytesN s) = L8 at *
  clear hT
  have hcv := fun W al cap (h : BytesAt W al L8) => conv_bytes h cap
  obtain ⟨a, b, c, d⟩ := s
  unfold Ws.v at *
  have KB := Lib.hid kB
  have KRB := Lib.hid kRB
  have KT := Lib.hid kT
  have KRT := Lib.hid kRT
  have KS := Lib.hid kS
  have KRS := Lib.hid kRS
  have HCV := Lib.hid hcv
  clear kB kRB kT kRT kS kRS hcv hs
  go_enter Tryd.func6, Tryd.ntmps6
  go_wp2_with fail
  have hB0 : Box (w.alloc (.cells #[.int .u64 a, .int .u64 b, .int .u64 c, .int .u64 d] 26)) w.heap.size ⟨a, b, c, d⟩ := Box.new4 w a b c d
  have hbw : Below w.heap.size w (w.alloc (.cells #[.int .u64 a, .int .u64 b, .int .u64 c, .int .u64 d] 26)) := (Below.refl _ w).alloc (Nat.le_refl _) _
  have hTW := HT.out.below hbw HT.out.1
  generalize hW : w.alloc (.cells #[.int .u64 a, .int .u64 b, .int .u64 c, .int .u64 d] 26) = W at *
  have HTW := Lib.hid hTW
  have HB0 := Lib.hid hB0
  clear hW hTW hB0
  go_region_held (fun x => (x.cell? ⟨w.heap.size, 0, none⟩ = some (.int .u64 a) ∧ x.cell? ⟨w.heap.size, 1, none⟩ = some (.int .u64 b) ∧ x.cell? ⟨w.heap.size, 2, none⟩ = some (.int .u64 c) ∧ x.cell? ⟨w.heap.size, 3, none⟩ = some (.int .u64 d)) ∧ Below W.heap.size W x) (first | assumption | exact ⟨HB0.out.cells, (Below.refl _ _).drew⟩ | exact keepX HB0.out (And.right (by assumption)) (by assumption))
    (first
      | (go_at_call 24; (with_reducible refine (KB.out _ ?_).mono ?_); (exact HTW.out.below (And.right (by assumption)) HTW.out.1); rintro e w' ⟨al1, cap1, rfl, -, hbb1, hat1⟩; have hcv1 := HCV.out _ _ cap1 hat1)
      | (go_at_call 22; (with_reducible refine (KRB.out _).mono ?_); rintro e w' ⟨al2, cap2, rfl, -, hbb2, hat2⟩; have hcv2 := HCV.out _ _ cap2 hat2; have hcv3 := HCV.out _ _ cap1 (hat1.below hbb2))
      | (go_at_call 25; (with_reducible refine (KT.out _ ?_).mono ?_); (exact HTW.out.below (And.right (by assumption)) HTW.out.1); rintro e w' ⟨rfl, hbb⟩)
      | (go_at_call 26; (with_reducible refine (KRT.out _).mono ?_); rintro e w' ⟨rfl, hbb⟩)
      | (go_at_call 27; (with_reducible refine (KS.out _).mono ?_); rintro e w' ⟨rfl, hbb⟩)
      | (go_at_call 28; (with_reducible refine (KRS.out _).mono ?_); rintro e w' ⟨rfl, hbb⟩)
      | (go_at_call 8; (refine (awake_any _ ?_).mono ?_); (exact HTW.out.below (And.right (by assumption)) HTW.out.1); rintro e w' ⟨rfl, hbb⟩))
  all_goals
    obtain ⟨-, hbx⟩ := ‹_ ∧ Below W.heap.size W _›
    go_wp2
    go_ret
    exact ⟨rfl, hbw.trans (hbx.mono hbw.size)⟩
end Go.Proofs.YtfjagcfbnnbpeaaDoor
