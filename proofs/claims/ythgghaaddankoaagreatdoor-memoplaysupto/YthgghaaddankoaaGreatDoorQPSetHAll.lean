/- Lemmas of mine, merged: QPSetH, QPSetI. -/
import Derived.Laws.Bits64b
import Derived.OwnWalk
import Derived.Test.YthgghaaddankoaaGreatDoorQPSetEAll
import Derived.Test.YthgghaaddankoaaGreatDoorQPSetMAll
import Derived.Test.YthgghaaddankoaaGreatDoorQPNumBuildAll
import Derived.Test.YthgghaaddankoaaGreatDoorQPFstIAll
/- Lemmas of mine. -/
namespace Go.Proofs.YthgghaaddankoaaGreatDoor
open Go.RowKit
def Tab (w : World) : Prop := 0 < w.heap.size ∧ ∀ j, j < 64 → w.cell? ⟨0, j, none⟩ = some (.int .u8 (Lib.deBruijn64tab.getD j 0))
theorem Tab.below {B : Nat} {w w' : World} (h : Tab w) (hb : Below B w w') (hB : 0 < B) : Tab w' :=
  ⟨Nat.lt_of_lt_of_le h.1 hb.size, fun j hj => by rw [hb.cell (p := ⟨0, j, none⟩) hB]; exact h.2 j hj⟩
theorem tz_key (x a : Nat) (hx : x < 18446744073709551616) (hx0 : x ≠ 0) (hlow : x &&& (18446744073709551616 - x) = a) :
    IntKind.u64.wrap (bits BinOp.and IntKind.u64 (x : Int) (IntKind.u64.wrap (-(x : Int))) * 285870213051353865) / 288230376151711744 = ((a * 285870213051353865 % 18446744073709551616 / 288230376151711744 : Nat) : Int) := by
  (have e1 : IntKind.u64.wrap (-(x : Int)) = ((18446744073709551616 - x : Nat) : Int) := by rw [IntKind.wrap_u64]; omega); rw [e1, u64_and_nat x _ hx (by omega), hlow, IntKind.wrap_u64]; omega
set_option maxHeartbeats 1000000 in
theorem tz_core (x k idx : Nat) (w : World) (hx0 : ((x : Int) == 0) = false)
    (key : IntKind.u64.wrap (bits BinOp.and IntKind.u64 (x : Int) (IntKind.u64.wrap (-(x : Int))) * 285870213051353865) / 288230376151711744 = (idx : Int))
    (hi : idx < 64) (hk : k < 64) (hcell : w.cell? ⟨0, idx, none⟩ = some (.int .u8 k)) :
    Calls Tryz.prog 132 #[.int .u64 x] w fun e w' => e = .returned (.int .i64 k) ∧ w = w' := by
  go_enter Tryz.func132, Tryz.ntmps132; go_wp2_with (simp only [key]); go_ret; exact ⟨rfl, rfl⟩
theorem tz_any (x : Nat) (w : World) (hx : x < 18446744073709551616) (hx0 : x ≠ 0) (hT : Tab w) :
    Calls Tryz.prog 132 #[.int .u64 x] w fun e w' => e = .returned (.int .i64 (Lib.ctz 64 x)) ∧ w = w' := by
  obtain ⟨hlow, hk⟩ := Lib.lowest_bit 64 x hx0 hx; obtain ⟨hi, htab⟩ := Lib.deBruijn64_at _ hk; have hcell := hT.2 _ hi; rw [htab] at hcell; exact tz_core x _ _ w (by simp; omega) (tz_key x _ hx hx0 hlow) hi hk hcell
theorem cell_byte (n : Nat) (h : n < 256) : Lib.byteCells (u8s [n]) = [.int .u8 n] := by
  (have : (UInt8.ofNat n).toNat = n := by simp; omega); simp [u8s, Lib.byteCells, this]
open Go.RowKit
def outInv (s : Ws) (w : World) (v i : Value) (wr : World) : Prop := ∃ k : Nat, k ≤ 4 ∧ i = .int .i64 k ∧ Below w.heap.size w wr ∧ wr.ownsRow w.heap.size 5 1 v (upto s (64 * k)).length (Lib.byteCells (u8s (upto s (64 * k))))
def inInv (s : Ws) (i x : Nat) (w : World) (v y : Value) (wr : World) : Prop := ∃ m z : Nat, m ≤ 64 ∧ z = hiBits x m ∧ y = .int .u64 z ∧ Below w.heap.size w wr ∧ wr.ownsRow w.heap.size 5 1 v (upto s (64 * i + m)).length (Lib.byteCells (u8s (upto s (64 * i + m))))
theorem and_pred (z : Nat) (hz : z < 18446744073709551616) (h0 : z ≠ 0) : bits BinOp.and IntKind.u64 (z : Int) ((z : Int) - 1) = ((z &&& (z - 1) : Nat) : Int) := by
  (have e : (z : Int) - 1 = ((z - 1 : Nat) : Int) := by omega); rw [e, u64_and_nat z _ hz (by omega)]
set_option maxHeartbeats 2000000 in
theorem bytes_any (s : Ws) (w : World) (hs : s.Ok) (hT : Tab w) :
    Calls Tryz.prog 113 #[s.v] w (BytesRet (u8s (bytesN s)) w) := by
  obtain ⟨a, b, c, d⟩ := s; obtain ⟨i0, hi, hz0, hz1, hz2⟩ := info_parts uInfo; have hz2' := Lib.hid hz2; have HT := Lib.hid hT; obtain ⟨h0, h1, h2, h3⟩ := hs; simp only at h0 h1 h2 h3; clear hz2 hT; have j0 := idx0; have j1 := idx1; have j2 := idx2; have j3 := idx3; unfold Ws.v; go_enter Tryz.func113, Tryz.ntmps113; go_wp2
  go_loopw [3, 7] (fun v i wr => outInv ⟨a, b, c, d⟩ w v i wr) (fun _ i _ => 4 - (intOf i).toNat)
  case atStart =>
    exact ⟨0, Nat.zero_le _, rfl, (Below.refl _ w).alloc (Nat.le_refl _) _, rfl, .inl ⟨rfl, rfl⟩⟩
  case round =>
    obtain ⟨k, hk, rfl, hb, hown⟩ := hrel; have HO := Lib.hid hown; clear hown; have hsz := hb.size; (have hq : k = 0 ∨ k = 1 ∨ k = 2 ∨ k = 3 ∨ k = 4 := by omega)
    rcases hq with rfl | rfl | rfl | rfl | rfl
    · clear j1 j2 j3; rw [show ((0 : Nat) : Int) = 0 from rfl]; go_wp2
      go_loopw [3, 5] (fun v y wr => inInv ⟨a, b, c, d⟩ 0 a w v y wr) (fun _ y _ => (intOf y).toNat)
      case atStart =>
        exact ⟨0, a, Nat.zero_le _, (hiBits_zero a).symm, rfl, hb, HO.out⟩
      case round =>
        obtain ⟨m, z, hm, hz, rfl, hb, hown⟩ := hrel; (have hzl : z < 18446744073709551616 := by rw [hz]; exact Nat.lt_of_le_of_lt (hiBits_le _ _) h0); have HZ := Lib.hid hz; have HO2 := Lib.hid hown; clear hz hown
        by_cases h00 : z = 0
        · have HE := Lib.hid (upto_end ⟨a, b, c, d⟩ 0 m hm (no_bit (x := a) (by rw [← HZ.out]; exact h00))); subst h00; go_wp2; refine ⟨⟨1, by decide, rfl, hb, ?_⟩, by simp [intOf]⟩; rw [show 64 * 1 = 64 * (0 + 1) from rfl, HE.out]; exact HO2.out
        · have hT2 : Tab _ := HT.out.below hb HT.out.1; obtain ⟨n1, n2, n3, n4, n5⟩ := next_bit (x := a) (m := m) h0 (by rw [← HZ.out]; exact h00); rw [← HZ.out] at n1 n2 n3 n4 n5; (have hne : ((z : Int) != 0) = true := by simp; omega); have hsz2 := hb.size; (have hz1' : (1 : Int) ≤ (z : Int) := by omega); go_wp2_with fail; refine (tz_any z _ hzl h00 hT2).mono ?_; rintro e w1 ⟨rfl, rfl⟩; generalize Lib.ctz 64 z = t at *; have HN := Lib.hid (upto_next ⟨a, b, c, d⟩ 0 m t n1 n2 n3 n4); have N5 := Lib.hid n5; have hlen := upto_length ⟨a, b, c, d⟩ (64 * 0 + m); clear n3 n4 n5; go_wp2_with (at_builtin; refine wpList_append_own _ rfl _ _ 93 rfl w.heap.size 5 i0 (.int .u8 0) 1 1 Tryz.underlying93 hi hz0 hz1 hz2'.out rfl (by decide) _ _ _ rfl (HO2.out.alloc _) ⟨wr.heap.size, 0, none⟩ 1 1 [.int .u8 (t : Int)] rfl rfl ?c1 ?c2 ?c3 ?c4 ?c5 ?_)
          case c1 =>
            intro j u hj
            match j, hj with
            | 0, hj => simp at hj; subst hj; simp [Addr.add]
          case c2 => intro u hu; simp at hu; subst hu; rfl
          case c3 => unfold maxLen; omega
          case c4 => omega
          case c5 => simp; omega
          intro v' w2 hown' hgrow _; have hb3 : Below w.heap.size w w2 := (hb.alloc hsz2 _).grown hgrow (by simp; omega) (own_ge HO2.out); have HOW := Lib.hid hown'; clear hgrow hown'; go_wp2; rw [and_pred z hzl h00, N5.out]; refine ⟨⟨t + 1, _, by omega, rfl, rfl, hb3, ?_⟩, ?_⟩
          · rw [HN.out, u8s_append, Lib.byteCells_append, cell_byte _ (by omega), List.length_append]; (have e : ((64 * 0 + t : Nat) : Int) = (t : Int) := by omega); rw [e]; have hh := HOW.out; simp only [Nat.mul_zero, Nat.zero_add]; exact hh
          · rw [← N5.out]; have := Nat.and_le_right (n := z) (m := z - 1); simp [intOf]; omega
    · clear j0 j2 j3; rw [show ((1 : Nat) : Int) = 1 from rfl]; go_wp2
      go_loopw [3, 5] (fun v y wr => inInv ⟨a, b, c, d⟩ 1 b w v y wr) (fun _ y _ => (intOf y).toNat)
      case atStart =>
        exact ⟨0, b, Nat.zero_le _, (hiBits_zero b).symm, rfl, hb, HO.out⟩
      case round =>
        obtain ⟨m, z, hm, hz, rfl, hb, hown⟩ := hrel; (have hzl : z < 18446744073709551616 := by rw [hz]; exact Nat.lt_of_le_of_lt (hiBits_le _ _) h1); have HZ := Lib.hid hz; have HO2 := Lib.hid hown; clear hz hown
        by_cases h00 : z = 0
        · have HE := Lib.hid (upto_end ⟨a, b, c, d⟩ 1 m hm (no_bit (x := b) (by rw [← HZ.out]; exact h00))); subst h00; go_wp2; refine ⟨⟨2, by decide, rfl, hb, ?_⟩, by simp [intOf]⟩; rw [show 64 * 2 = 64 * (1 + 1) from rfl, HE.out]; exact HO2.out
        · have hT2 : Tab _ := HT.out.below hb HT.out.1; obtain ⟨n1, n2, n3, n4, n5⟩ := next_bit (x := b) (m := m) h1 (by rw [← HZ.out]; exact h00); rw [← HZ.out] at n1 n2 n3 n4 n5; (have hne : ((z : Int) != 0) = true := by simp; omega); have hsz2 := hb.size; (have hz1' : (1 : Int) ≤ (z : Int) := by omega); go_wp2_with fail; refine (tz_any z _ hzl h00 hT2).mono ?_; rintro e w1 ⟨rfl, rfl⟩; generalize Lib.ctz 64 z = t at *; have HN := Lib.hid (upto_next ⟨a, b, c, d⟩ 1 m t n1 n2 n3 n4); have N5 := Lib.hid n5; have hlen := upto_length ⟨a, b, c, d⟩ (64 * 1 + m); clear n3 n4 n5; go_wp2_with (at_builtin; refine wpList_append_own _ rfl _ _ 93 rfl w.heap.size 5 i0 (.int .u8 0) 1 1 Tryz.underlying93 hi hz0 hz1 hz2'.out rfl (by decide) _ _ _ rfl (HO2.out.alloc _) ⟨wr.heap.size, 0, none⟩ 1 1 [.int .u8 (64 + (t : Int))] rfl rfl ?c1 ?c2 ?c3 ?c4 ?c5 ?_)
          case c1 =>
            intro j u hj
            match j, hj with
            | 0, hj => simp at hj; subst hj; simp [Addr.add]
          case c2 => intro u hu; simp at hu; subst hu; rfl
          case c3 => unfold maxLen; omega
          case c4 => omega
          case c5 => simp; omega
          intro v' w2 hown' hgrow _; have hb3 : Below w.heap.size w w2 := (hb.alloc hsz2 _).grown hgrow (by simp; omega) (own_ge HO2.out); have HOW := Lib.hid hown'; clear hgrow hown'; go_wp2; rw [and_pred z hzl h00, N5.out]; refine ⟨⟨t + 1, _, by omega, rfl, rfl, hb3, ?_⟩, ?_⟩
          · rw [HN.out, u8s_append, Lib.byteCells_append, cell_byte _ (by omega), List.length_append]; (have e : ((64 * 1 + t : Nat) : Int) = (64 + (t : Int)) := by omega); rw [e]; exact HOW.out
          · rw [← N5.out]; have := Nat.and_le_right (n := z) (m := z - 1); simp [intOf]; omega
    · clear j0 j1 j3; rw [show ((2 : Nat) : Int) = 2 from rfl]; go_wp2
      go_loopw [3, 5] (fun v y wr => inInv ⟨a, b, c, d⟩ 2 c w v y wr) (fun _ y _ => (intOf y).toNat)
      case atStart =>
        exact ⟨0, c, Nat.zero_le _, (hiBits_zero c).symm, rfl, hb, HO.out⟩
      case round =>
        obtain ⟨m, z, hm, hz, rfl, hb, hown⟩ := hrel; (have hzl : z < 18446744073709551616 := by rw [hz]; exact Nat.lt_of_le_of_lt (hiBits_le _ _) h2); have HZ := Lib.hid hz; have HO2 := Lib.hid hown; clear hz hown
        by_cases h00 : z = 0
        · have HE := Lib.hid (upto_end ⟨a, b, c, d⟩ 2 m hm (no_bit (x := c) (by rw [← HZ.out]; exact h00))); subst h00; go_wp2; refine ⟨⟨3, by decide, rfl, hb, ?_⟩, by simp [intOf]⟩; rw [show 64 * 3 = 64 * (2 + 1) from rfl, HE.out]; exact HO2.out
        · have hT2 : Tab _ := HT.out.below hb HT.out.1; obtain ⟨n1, n2, n3, n4, n5⟩ := next_bit (x := c) (m := m) h2 (by rw [← HZ.out]; exact h00); rw [← HZ.out] at n1 n2 n3 n4 n5; (have hne : ((z : Int) != 0) = true := by simp; omega); have hsz2 := hb.size; (have hz1' : (1 : Int) ≤ (z : Int) := by omega); go_wp2_with fail; refine (tz_any z _ hzl h00 hT2).mono ?_; rintro e w1 ⟨rfl, rfl⟩; generalize Lib.ctz 64 z = t at *; have HN := Lib.hid (upto_next ⟨a, b, c, d⟩ 2 m t n1 n2 n3 n4); have N5 := Lib.hid n5; have hlen := upto_length ⟨a, b, c, d⟩ (64 * 2 + m); clear n3 n4 n5; go_wp2_with (at_builtin; refine wpList_append_own _ rfl _ _ 93 rfl w.heap.size 5 i0 (.int .u8 0) 1 1 Tryz.underlying93 hi hz0 hz1 hz2'.out rfl (by decide) _ _ _ rfl (HO2.out.alloc _) ⟨wr.heap.size, 0, none⟩ 1 1 [.int .u8 (128 + (t : Int))] rfl rfl ?c1 ?c2 ?c3 ?c4 ?c5 ?_)
          case c1 =>
            intro j u hj
            match j, hj with
            | 0, hj => simp at hj; subst hj; simp [Addr.add]
          case c2 => intro u hu; simp at hu; subst hu; rfl
          case c3 => unfold maxLen; omega
          case c4 => omega
          case c5 => simp; omega
          intro v' w2 hown' hgrow _; have hb3 : Below w.heap.size w w2 := (hb.alloc hsz2 _).grown hgrow (by simp; omega) (own_ge HO2.out); have HOW := Lib.hid hown'; clear hgrow hown'; go_wp2; rw [and_pred z hzl h00, N5.out]; refine ⟨⟨t + 1, _, by omega, rfl, rfl, hb3, ?_⟩, ?_⟩
          · rw [HN.out, u8s_append, Lib.byteCells_append, cell_byte _ (by omega), List.length_append]; (have e : ((64 * 2 + t : Nat) : Int) = (128 + (t : Int)) := by omega); rw [e]; exact HOW.out
          · rw [← N5.out]; have := Nat.and_le_right (n := z) (m := z - 1); simp [intOf]; omega
    · clear j0 j1 j2; rw [show ((3 : Nat) : Int) = 3 from rfl]; go_wp2
      go_loopw [3, 5] (fun v y wr => inInv ⟨a, b, c, d⟩ 3 d w v y wr) (fun _ y _ => (intOf y).toNat)
      case atStart =>
        exact ⟨0, d, Nat.zero_le _, (hiBits_zero d).symm, rfl, hb, HO.out⟩
      case round =>
        obtain ⟨m, z, hm, hz, rfl, hb, hown⟩ := hrel; (have hzl : z < 18446744073709551616 := by rw [hz]; exact Nat.lt_of_le_of_lt (hiBits_le _ _) h3); have HZ := Lib.hid hz; have HO2 := Lib.hid hown; clear hz hown
        by_cases h00 : z = 0
        · have HE := Lib.hid (upto_end ⟨a, b, c, d⟩ 3 m hm (no_bit (x := d) (by rw [← HZ.out]; exact h00))); subst h00; go_wp2; refine ⟨⟨4, by decide, rfl, hb, ?_⟩, by simp [intOf]⟩; rw [show 64 * 4 = 64 * (3 + 1) from rfl, HE.out]; exact HO2.out
        · have hT2 : Tab _ := HT.out.below hb HT.out.1; obtain ⟨n1, n2, n3, n4, n5⟩ := next_bit (x := d) (m := m) h3 (by rw [← HZ.out]; exact h00); rw [← HZ.out] at n1 n2 n3 n4 n5; (have hne : ((z : Int) != 0) = true := by simp; omega); have hsz2 := hb.size; (have hz1' : (1 : Int) ≤ (z : Int) := by omega); go_wp2_with fail; refine (tz_any z _ hzl h00 hT2).mono ?_; rintro e w1 ⟨rfl, rfl⟩; generalize Lib.ctz 64 z = t at *; have HN := Lib.hid (upto_next ⟨a, b, c, d⟩ 3 m t n1 n2 n3 n4); have N5 := Lib.hid n5; have hlen := upto_length ⟨a, b, c, d⟩ (64 * 3 + m); clear n3 n4 n5; go_wp2_with (at_builtin; refine wpList_append_own _ rfl _ _ 93 rfl w.heap.size 5 i0 (.int .u8 0) 1 1 Tryz.underlying93 hi hz0 hz1 hz2'.out rfl (by decide) _ _ _ rfl (HO2.out.alloc _) ⟨wr.heap.size, 0, none⟩ 1 1 [.int .u8 (192 + (t : Int))] rfl rfl ?c1 ?c2 ?c3 ?c4 ?c5 ?_)
          case c1 =>
            intro j u hj
            match j, hj with
            | 0, hj => simp at hj; subst hj; simp [Addr.add]
          case c2 => intro u hu; simp at hu; subst hu; rfl
          case c3 => unfold maxLen; omega
          case c4 => omega
          case c5 => simp; omega
          intro v' w2 hown' hgrow _; have hb3 : Below w.heap.size w w2 := (hb.alloc hsz2 _).grown hgrow (by simp; omega) (own_ge HO2.out); have HOW := Lib.hid hown'; clear hgrow hown'; go_wp2; rw [and_pred z hzl h00, N5.out]; refine ⟨⟨t + 1, _, by omega, rfl, rfl, hb3, ?_⟩, ?_⟩
          · rw [HN.out, u8s_append, Lib.byteCells_append, cell_byte _ (by omega), List.length_append]; (have e : ((64 * 3 + t : Nat) : Int) = (192 + (t : Int)) := by omega); rw [e]; exact HOW.out
          · rw [← N5.out]; have := Nat.and_le_right (n := z) (m := z - 1); simp [intOf]; omega
    · clear j0 j1 j2 j3; obtain ⟨a', cap, rfl, hcap, hat⟩ := ret_bytes (l := u8s (upto ⟨a, b, c, d⟩ 256)) (by rw [u8s_length]; exact HO.out); go_wp2; go_ret; exact ⟨a', cap, rfl, hcap, hb, hat⟩
end Go.Proofs.YthgghaaddankoaaGreatDoor
