/- Lemmas of mine, merged: QPSetJ. -/
import Derived.Laws.BytesString
import Derived.Laws.IdiomStrings
import Derived.Test.YthgghaaddankoaaGreatDoorQPSetHAll
import Derived.Test.YthgghaaddankoaaGreatDoorQPSetMAll
import Derived.Test.YthgghaaddankoaaGreatDoorQPNumHexAAll
/- Lemmas of mine. -/
namespace Go.Proofs.YthgghaaddankoaaGreatDoor
open Go.RowKit
theorem res_fin : ∀ n : Fin 256, decide ((0 : Int) ≤ Lib.indexByte [92, 124, 42, 40, 41, 91, 93, 46, 45] ((n.1 : Int).toNat.toUInt8)) = resL.contains n.1 := by decide +kernel
theorem res_at (n : Nat) (h : n < 256) : decide ((0 : Int) ≤ Lib.indexByte [92, 124, 42, 40, 41, 91, 93, 46, 45] ((n : Int).toNat.toUInt8)) = resL.contains n := res_fin ⟨n, h⟩
theorem signL_spec {n : Nat} (hn : n < 256) (h : specB n = true) : (⟨(signL n).toArray⟩ : ByteArray) = ByteArray.mk #[92] ++ ⟨(hexL [UInt8.ofNat n]).toArray⟩ := by
  (have e : (UInt8.ofNat n).toNat = n := by simp; omega)
  apply ByteArray.ext
  simp [signL, h, hexL, e, ByteArray.data_append]; exact ⟨rfl, rfl⟩
theorem signL_plain {n : Nat} (h : specB n = false) : signL n = [UInt8.ofNat n] := by simp [signL, h]
theorem specB_no {n : Nat} (h : specB n = false) : ¬ n < 33 ∧ ¬ 126 < n ∧ resL.contains n = false := by
  simp only [specB, Bool.or_eq_false_iff, decide_eq_false_iff_not] at h; exact ⟨h.1.1, h.1.2, h.2⟩
theorem one_byte (w : World) (n : Nat) (hn : n < 256) : BytesAt (w.alloc (.cells #[.int .u8 n] 5)) (some ⟨w.heap.size, 0, none⟩) [UInt8.ofNat n] := by
  (have e : (UInt8.ofNat n).toNat = n := by simp; omega); refine ⟨by simp [maxLen], .inr ⟨_, _, rfl, by simp, ?_⟩⟩; intro i hi
  match i, hi with
  | 0, _ => simp [e]
set_option maxHeartbeats 1000000 in
theorem sign_any (n : Nat) (w : World) (hn : n < 256) :
    Calls Tryz.prog 110 #[.int .u8 n] w fun e w' => e = .returned (.string ⟨(signL n).toArray⟩) ∧ Below w.heap.size w w' := by
  by_cases hs : specB n = true
  · rw [signL_spec hn hs]
    by_cases h1 : n < 33
    · (have d1 : decide ((n : Int) < (33 : Int)) = true := by simp; omega); go_enter Tryz.func110, Tryz.ntmps110; go_wp2_with fail; refine (hex_any _ [UInt8.ofNat n] _ _ (one_byte w n hn) (by simp)).mono ?_; rintro e w1 ⟨rfl, hb1⟩; (have hX : (hexL [UInt8.ofNat n]).length ≤ 2 := by rw [hexL_length]; simp); generalize hXe : hexL [UInt8.ofNat n] = X at *; have HX := Lib.hid hXe; clear hXe; (have n1 : ¬ (9223372036854775807 < 1 + X.length) := by omega); go_wp2; go_ret; exact ⟨by rw [HX.out]; rfl, ((Below.refl _ w).alloc (Nat.le_refl _) _).trans (hb1.mono (by simp))⟩
    · (have d1 : decide ((n : Int) < (33 : Int)) = false := by simp; omega)
      by_cases h2 : 126 < n
      · (have d2 : decide ((126 : Int) < (n : Int)) = true := by simp; omega); go_enter Tryz.func110, Tryz.ntmps110; go_wp2_with fail; refine (hex_any _ [UInt8.ofNat n] _ _ (one_byte w n hn) (by simp)).mono ?_; rintro e w1 ⟨rfl, hb1⟩; (have hX : (hexL [UInt8.ofNat n]).length ≤ 2 := by rw [hexL_length]; simp); generalize hXe : hexL [UInt8.ofNat n] = X at *; have HX := Lib.hid hXe; clear hXe; (have n1 : ¬ (9223372036854775807 < 1 + X.length) := by omega); go_wp2; go_ret; exact ⟨by rw [HX.out]; rfl, ((Below.refl _ w).alloc (Nat.le_refl _) _).trans (hb1.mono (by simp))⟩
      · (have d2 : decide ((126 : Int) < (n : Int)) = false := by simp; omega)
        have hr : resL.contains n = true := by
          simp only [specB, Bool.or_eq_true, decide_eq_true_eq] at hs
          rcases hs with (h | h) | h
          · exact absurd h h1
          · exact absurd h h2
          · exact h
        have d3 := (res_at n hn).trans hr; have D3 := Lib.hid d3; clear d3 hr; go_enter Tryz.func110, Tryz.ntmps110; go_wp2_with fail; refine (Tryz.strings_IndexByte _ _ _).mono ?_; rintro e w' ⟨rfl, hw'⟩; replace hw' := hw'.symm; subst hw'; generalize Lib.indexByte _ _ = ix at *; have d3 := D3.out; go_wp2_with fail; refine (hex_any _ [UInt8.ofNat n] _ _ (one_byte w n hn) (by simp)).mono ?_; rintro e w1 ⟨rfl, hb1⟩; (have hX : (hexL [UInt8.ofNat n]).length ≤ 2 := by rw [hexL_length]; simp); generalize hXe : hexL [UInt8.ofNat n] = X at *; have HX := Lib.hid hXe; clear hXe; (have n1 : ¬ (9223372036854775807 < 1 + X.length) := by omega); go_wp2; go_ret; exact ⟨by rw [HX.out]; rfl, ((Below.refl _ w).alloc (Nat.le_refl _) _).trans (hb1.mono (by simp))⟩
  · (have hs' : specB n = false := by simpa using hs); rw [signL_plain hs']; obtain ⟨h1, h2, h3⟩ := specB_no hs'; (have d1 : decide ((n : Int) < (33 : Int)) = false := by simp; omega); (have d2 : decide ((126 : Int) < (n : Int)) = false := by simp; omega); have D3 := Lib.hid ((res_at n hn).trans h3); clear h3 hs hs'; go_enter Tryz.func110, Tryz.ntmps110; go_wp2_with fail; refine (Tryz.strings_IndexByte _ _ _).mono ?_; rintro e w' ⟨rfl, hw'⟩; replace hw' := hw'.symm; subst hw'; have hcv := conv_bytes (one_byte w n hn) 1; simp only [List.length_singleton] at hcv; generalize Lib.indexByte _ _ = ix at *; have d3 := D3.out; go_wp2; go_ret; exact ⟨rfl, (Below.refl _ w).alloc (Nat.le_refl _) _⟩
end Go.Proofs.YthgghaaddankoaaGreatDoor
