/- Lemmas of mine, merged: QPSetC. -/
import Derived.Deep.QuietTactic
import Derived.BigQuiet
import Derived.RegionTactic
import Derived.Test.YthgghaaddankoaaGreatDoorQPSetAAll
import Derived.Test.YthgghaaddankoaaGreatDoorQPFstIAll
/- Lemmas of mine. -/
namespace Go.Proofs.YthgghaaddankoaaGreatDoor
open Go.RowKit
def natsOf (l : List UInt8) : List Nat := l.map UInt8.toNat
theorem natsOf_take (l : List UInt8) (k : Nat) (h : k < l.length) : natsOf (l.take (k + 1)) = natsOf (l.take k) ++ [l[k].toNat] := by
  rw [natsOf, List.take_succ_eq_append_getElem h, List.map_append]; rfl
def ofInv (l : List UInt8) (w : World) (i : Value) (wr : World) : Prop := ∃ (k : Nat) (s : Ws), k ≤ l.length ∧ s = ofN (natsOf (l.take k)) ∧ i = .int .i64 k ∧ Box wr w.heap.size Ws.nil ∧ Box wr (w.heap.size + 1) s ∧ Below w.heap.size w wr
set_option maxHeartbeats 2000000 in
theorem setOf_any (a : Option Addr) (l : List UInt8) (cap : Nat) (w : World) (h : BytesAt w a l) :
    Calls Tryz.prog 83 #[.slice a l.length cap] w fun e w' => e = .returned (ofN (natsOf l)).v ∧ Below w.heap.size w w' := by
  have hS := Lib.hid h; have hl := h.1; unfold maxLen at hl; clear h; go_enter Tryz.func83, Tryz.ntmps83; go_wp2
  go_loopw [8] (fun i wr => ofInv l w i wr) (fun i _ => l.length - (intOf i).toNat)
  case atStart =>
    refine ⟨0, Ws.nil, Nat.zero_le _, rfl, rfl, (Box.zero w).alloc _, ?_, ((Below.refl _ w).alloc (Nat.le_refl _) _).alloc (by simp) _⟩; have := Box.zero (w.alloc (.cells #[.int .u64 0, .int .u64 0, .int .u64 0, .int .u64 0] 37))
    simpa using this
  case round =>
    obtain ⟨k, s, hk, hs, rfl, hr, hB, hb⟩ := hrel; have hsz := hb.size; have hbs := hB.lt; (have hok : s.Ok := by rw [hs]; exact ofN_ok _); have HS := Lib.hid hs; clear hs; obtain ⟨sa, sb, sc, sd⟩ := s
    by_cases hlt : k < l.length
    · obtain ⟨b, off, hab, hblt, hc⟩ : ∃ b off, a = some ⟨b, off, none⟩ ∧ b < w.heap.size ∧ ∀ i (h : i < l.length), w.cell? ⟨b, off + i, none⟩ = some (.int .u8 l[i].toNat) := by
        rcases hS.out.2 with h | h
        · subst h; simp at hlt
        · exact h
      subst hab; (have hcell : wr.cell? ⟨b, off + k, none⟩ = some (.int .u8 l[k].toNat) := by rw [hb.cell (p := ⟨b, off + k, none⟩) hblt]; exact hc k hlt); clear hc; have h255 : l[k].toNat < 256 := l[k].toNat_lt; (have hsn : ofN (natsOf (l.take (k + 1))) = (Ws.mk sa sb sc sd).ins l[k].toNat := by rw [natsOf_take l k hlt, ofN_snoc, HS.out]); obtain ⟨⟨c0, c1, c2, c3⟩, f0, f1, f2, f3⟩ := hB.all; have HN := Lib.hid hsn; clear hsn HS; go_wp2_with fail; refine (with_any ⟨sa, sb, sc, sd⟩ l[k].toNat _ hok h255).mono ?_; rintro e w1 ⟨rfl, hb1⟩; have hB1 := hB.below hb1 hbs; have hr1 := hr.below hb1 (by omega); have hbw := hb.trans (hb1.mono hsz); clear c0 c1 c2 c3 f0 f1 f2 f3 hB hr hb1 hb; obtain ⟨⟨c0, c1, c2, c3⟩, f0, f1, f2, f3⟩ := hB1.all; generalize (Ws.mk sa sb sc sd).ins l[k].toNat = s' at *; obtain ⟨ta, tb, tc, td⟩ := s'; unfold Ws.v; go_wp2; refine ⟨⟨k + 1, ⟨ta, tb, tc, td⟩, by omega, HN.out.symm, by go_num, ?_, hB1.put4 _ _ _ _, below_put hbw (by omega) _ _ _ _⟩, by simp [intOf]; omega⟩; exact (((hr1.far (by simp) _).far (by simp) _).far (by simp) _).far (by simp) _
    · have he : l.take k = l := List.take_of_length_le (by omega); rw [he] at HS; clear he; obtain ⟨⟨c0, c1, c2, c3⟩, f0, f1, f2, f3⟩ := hB.all; obtain ⟨⟨d0, d1, d2, d3⟩, g0, g1, g2, g3⟩ := hr.all; simp only [Ws.nil] at d0 d1 d2 d3; go_wp2; exact ret_box (hr.put4 _ _ _ _) Tryz.results83 rfl rfl ⟨by rw [← HS.out], below_put hb (Nat.le_refl _) _ _ _ _⟩
end Go.Proofs.YthgghaaddankoaaGreatDoor
