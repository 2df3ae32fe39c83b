/- Lemmas of mine, merged: SetJ. -/
import Derived.Laws.BytesString
import Derived.Laws.IdiomStrings
import Derived.Test.YtmkjcbgcikgglaaSetHAll
import Derived.Test.YtmkjcbgcikgglaaSetMAll
import Derived.Test.YtmkjcbgcikgglaaRefHexAll
import Derived.Test.YtmkjcbgcikgglaaNumHexAAll
/- Both Signs. -/
namespace Go.Proofs.Ytmkjcbgcikgglaa
open Go.RowKit
theorem res_fin : ∀ n : Fin 256, decide ((0 : Int) ≤ Lib.indexByte [92, 124, 42, 40, 41, 91, 93, 46, 45] ((n.1 : Int).toNat.toUInt8)) = resL.contains n.1 := by decide +kernel
theorem res_at (n : Nat) (h : n < 256) : decide ((0 : Int) ≤ Lib.indexByte [92, 124, 42, 40, 41, 91, 93, 46, 45] ((n : Int).toNat.toUInt8)) = resL.contains n := res_fin ⟨n, h⟩
theorem signL_spec {n : Nat} (hn : n < 256) (h : specB n = true) : (⟨(signL n).toArray⟩ : ByteArray) = ByteArray.mk #[92] ++ ⟨(hexL [UInt8.ofNat n]).toArray⟩ := by
  have e : (UInt8.ofNat n).toNat = n := by simp; omega
  apply ByteArray.ext
  simp [signL, h, hexL, e, ByteArray.data_append]
  exact ⟨rfl, rfl⟩
theorem signL_plain {n : Nat} (h : specB n = false) : signL n = [UInt8.ofNat n] := by simp [signL, h]
theorem specB_no {n : Nat} (h : specB n = false) : ¬ n < 33 ∧ ¬ 126 < n ∧ resL.contains n = false := by
  simp only [specB, Bool.or_eq_false_iff, decide_eq_false_iff_not] at h
  exact ⟨h.1.1, h.1.2, h.2⟩
theorem one_byte (w : World) (n : Nat) (hn : n < 256) : BytesAt (w.alloc (.cells #[.int .u8 n] 5)) (some ⟨w.heap.size, 0, none⟩) [UInt8.ofNat n] := by
  have e : (UInt8.ofNat n).toNat = n := by simp; omega
  refine ⟨by simp [maxLen], .inr ⟨_, _, rfl, by simp, ?_⟩⟩
  intro i hi
  match i, hi with
  | 0, _ => simp [e]
set_option maxHeartbeats 1000000 in
theorem sign_any (n : Nat) (w : World) (hn : n < 256) :
    Calls Try.prog 51 #[.int .u8 n] w fun e w' => e = .returned (.string ⟨(signL n).toArray⟩) ∧ Below w.heap.size w w' := by
  by_cases hs : specB n = true
  · rw [signL_spec hn hs]
    by_cases h1 : n < 33
    · have d1 : decide ((n : Int) < (33 : Int)) = true := by simp; omega
      go_enter Try.func51, Try.ntmps51
      go_wp2_with fail
      refine (hex_any _ [UInt8.ofNat n] _ _ (one_byte w n hn) (by simp)).mono ?_
      rintro e w1 ⟨rfl, hb1⟩
      have hX : (hexL [UInt8.ofNat n]).length ≤ 2 := by rw [hexL_length]; simp
      generalize hXe : hexL [UInt8.ofNat n] = X at *
      have HX := Lib.hid hXe
      clear hXe
      have n1 : ¬ (9223372036854775807 < 1 + X.length) := by omega
      go_wp2
      go_ret
      exact ⟨by rw [HX.out]; rfl, ((Below.refl _ w).alloc (Nat.le_refl _) _).trans (hb1.mono (by simp))⟩
    · have d1 : decide ((n : Int) < (33 : Int)) = false := by simp; omega
      by_cases h2 : 126 < n
      · have d2 : decide ((126 : Int) < (n : Int)) = true := by simp; omega
        go_enter Try.func51, Try.ntmps51
        go_wp2_with fail
        refine (hex_any _ [UInt8.ofNat n] _ _ (one_byte w n hn) (by simp)).mono ?_
        rintro e w1 ⟨rfl, hb1⟩
        have hX : (hexL [UInt8.ofNat n]).length ≤ 2 := by rw [hexL_length]; simp
        generalize hXe : hexL [UInt8.ofNat n] = X at *
        have HX := Lib.hid hXe
        clear hXe
        have n1 : ¬ (9223372036854775807 < 1 + X.length) := by omega
        go_wp2
        go_ret
        exact ⟨by rw [HX.out]; rfl, ((Below.refl _ w).alloc (Nat.le_refl _) _).trans (hb1.mono (by simp))⟩
      · have d2 : decide ((126 : Int) < (n : Int)) = false := by simp; omega
        have hr : resL.contains n = true := by
          simp only [specB, Bool.or_eq_true, decide_eq_true_eq] at hs
          rcases hs with (h | h) | h
          · exact absurd h h1
          · exact absurd h h2
          · exact h
        have d3 := (res_at n hn).trans hr
        have D3 := Lib.hid d3
        clear d3 hr
        go_enter Try.func51, Try.ntmps51
        go_wp2_with fail
        refine (Try.strings_IndexByte _ _ _).mono ?_
        rintro e w' ⟨rfl, hw'⟩
        replace hw' := hw'.symm
        subst hw'
        generalize Lib.indexByte _ _ = ix at *
        have d3 := D3.out
        go_wp2_with fail
        refine (hex_any _ [UInt8.ofNat n] _ _ (one_byte w n hn) (by simp)).mono ?_
        rintro e w1 ⟨rfl, hb1⟩
        have hX : (hexL [UInt8.ofNat n]).length ≤ 2 := by rw [hexL_length]; simp
        generalize hXe : hexL [UInt8.ofNat n] = X at *
        have HX := Lib.hid hXe
        clear hXe
        have n1 : ¬ (9223372036854775807 < 1 + X.length) := by omega
        go_wp2
        go_ret
        exact ⟨by rw [HX.out]; rfl, ((Below.refl _ w).alloc (Nat.le_refl _) _).trans (hb1.mono (by simp))⟩
  · have hs' : specB n = false := by simpa using hs
    rw [signL_plain hs']
    obtain ⟨h1, h2, h3⟩ := specB_no hs'
    have d1 : decide ((n : Int) < (33 : Int)) = false := by simp; omega
    have d2 : decide ((126 : Int) < (n : Int)) = false := by simp; omega
    have D3 := Lib.hid ((res_at n hn).trans h3)
    clear h3 hs hs'
    go_enter Try.func51, Try.ntmps51
    go_wp2_with fail
    refine (Try.strings_IndexByte _ _ _).mono ?_
    rintro e w' ⟨rfl, hw'⟩
    replace hw' := hw'.symm
    subst hw'
    have hcv := conv_bytes (one_byte w n hn) 1
    simp only [List.length_singleton] at hcv
    generalize Lib.indexByte _ _ = ix at *
    have d3 := D3.out
    go_wp2
    go_ret
    exact ⟨rfl, (Below.refl _ w).alloc (Nat.le_refl _) _⟩
def spInv (n : Nat) (i : Value) : Prop := ∃ k : Nat, k ≤ 9 ∧ i = .int .i64 k ∧ ∀ x ∈ resL.take k, x ≠ n
theorem sp_end {n : Nat} (h : ∀ x ∈ resL.take 9, x ≠ n) : resL.contains n = false := by
  simp [resL] at h ⊢
  omega
set_option maxHeartbeats 2000000 in
theorem special_any (n : Nat) (w : World) (hn : n < 256) :
    Calls Try.prog 66 #[.int .u8 n] w fun e w' => e = .returned (.bool (specB n)) ∧ w = w' := by
  go_enter Try.func66, Try.ntmps66
  go_wp2
  go_loop [4] (fun i => spInv n i) (fun i => 9 - (intOf i).toNat)
  case atStart => exact ⟨0, Nat.zero_le _, rfl, by simp⟩
  case round =>
    obtain ⟨k, hk, rfl, hall⟩ := hrel
    have HA := Lib.hid hall
    clear hall
    have hq : k = 0 ∨ k = 1 ∨ k = 2 ∨ k = 3 ∨ k = 4 ∨ k = 5 ∨ k = 6 ∨ k = 7 ∨ k = 8 ∨ k = 9 := by omega
    rcases hq with rfl | rfl | rfl | rfl | rfl | rfl | rfl | rfl | rfl | rfl
    · rw [show ((0 : Nat) : Int) = 0 from rfl]
      have hv : ((ByteArray.mk #[92, 124, 42, 40, 41, 91, 93, 46, 45])[0]'(by decide)).toNat = 92 := by decide
      by_cases e : n = 92
      · have hsp : specB n = true := by subst e; decide
        have HS := Lib.hid hsp
        have d1 : ((((ByteArray.mk #[92, 124, 42, 40, 41, 91, 93, 46, 45])[0]'(by decide)).toNat : Int) == (n : Int)) = true := by rw [hv]; simp; omega
        clear hsp e hv
        go_wp2
        go_ret
        exact ⟨by rw [HS.out]; rfl, rfl⟩
      · have d1 : ((((ByteArray.mk #[92, 124, 42, 40, 41, 91, 93, 46, 45])[0]'(by decide)).toNat : Int) == (n : Int)) = false := by rw [hv]; simp; omega
        clear hv
        go_wp2
        refine ⟨⟨1, by decide, rfl, ?_⟩, by simp [intOf]⟩
        have := HA.out
        simp [resL] at this ⊢
        omega
    · rw [show ((1 : Nat) : Int) = 1 from rfl]
      have hv : ((ByteArray.mk #[92, 124, 42, 40, 41, 91, 93, 46, 45])[1]'(by decide)).toNat = 124 := by decide
      by_cases e : n = 124
      · have hsp : specB n = true := by subst e; decide
        have HS := Lib.hid hsp
        have d1 : ((((ByteArray.mk #[92, 124, 42, 40, 41, 91, 93, 46, 45])[1]'(by decide)).toNat : Int) == (n : Int)) = true := by rw [hv]; simp; omega
        clear hsp e hv
        go_wp2
        go_ret
        exact ⟨by rw [HS.out]; rfl, rfl⟩
      · have d1 : ((((ByteArray.mk #[92, 124, 42, 40, 41, 91, 93, 46, 45])[1]'(by decide)).toNat : Int) == (n : Int)) = false := by rw [hv]; simp; omega
        clear hv
        go_wp2
        refine ⟨⟨2, by decide, rfl, ?_⟩, by simp [intOf]⟩
        have := HA.out
        simp [resL] at this ⊢
        omega
    · rw [show ((2 : Nat) : Int) = 2 from rfl]
      have hv : ((ByteArray.mk #[92, 124, 42, 40, 41, 91, 93, 46, 45])[2]'(by decide)).toNat = 42 := by decide
      by_cases e : n = 42
      · have hsp : specB n = true := by subst e; decide
        have HS := Lib.hid hsp
        have d1 : ((((ByteArray.mk #[92, 124, 42, 40, 41, 91, 93, 46, 45])[2]'(by decide)).toNat : Int) == (n : Int)) = true := by rw [hv]; simp; omega
        clear hsp e hv
        go_wp2
        go_ret
        exact ⟨by rw [HS.out]; rfl, rfl⟩
      · have d1 : ((((ByteArray.mk #[92, 124, 42, 40, 41, 91, 93, 46, 45])[2]'(by decide)).toNat : Int) == (n : Int)) = false := by rw [hv]; simp; omega
        clear hv
        go_wp2
        refine ⟨⟨3, by decide, rfl, ?_⟩, by simp [intOf]⟩
        have := HA.out
        simp [resL] at this ⊢
        omega
    · rw [show ((3 : Nat) : Int) = 3 from rfl]
      have hv : ((ByteArray.mk #[92, 124, 42, 40, 41, 91, 93, 46, 45])[3]'(by decide)).toNat = 40 := by decide
      by_cases e : n = 40
      · have hsp : specB n = true := by subst e; decide
        have HS := Lib.hid hsp
        have d1 : ((((ByteArray.mk #[92, 124, 42, 40, 41, 91, 93, 46, 45])[3]'(by decide)).toNat : Int) == (n : Int)) = true := by rw [hv]; simp; omega
        clear hsp e hv
        go_wp2
        go_ret
        exact ⟨by rw [HS.out]; rfl, rfl⟩
      · have d1 : ((((ByteArray.mk #[92, 124, 42, 40, 41, 91, 93, 46, 45])[3]'(by decide)).toNat : Int) == (n : Int)) = false := by rw [hv]; simp; omega
        clear hv
        go_wp2
        refine ⟨⟨4, by decide, rfl, ?_⟩, by simp [intOf]⟩
        have := HA.out
        simp [resL] at this ⊢
        omega
    · rw [show ((4 : Nat) : Int) = 4 from rfl]
      have hv : ((ByteArray.mk #[92, 124, 42, 40, 41, 91, 93, 46, 45])[4]'(by decide)).toNat = 41 := by decide
      by_cases e : n = 41
      · have hsp : specB n = true := by subst e; decide
        have HS := Lib.hid hsp
        have d1 : ((((ByteArray.mk #[92, 124, 42, 40, 41, 91, 93, 46, 45])[4]'(by decide)).toNat : Int) == (n : Int)) = true := by rw [hv]; simp; omega
        clear hsp e hv
        go_wp2
        go_ret
        exact ⟨by rw [HS.out]; rfl, rfl⟩
      · have d1 : ((((ByteArray.mk #[92, 124, 42, 40, 41, 91, 93, 46, 45])[4]'(by decide)).toNat : Int) == (n : Int)) = false := by rw [hv]; simp; omega
        clear hv
        go_wp2
        refine ⟨⟨5, by decide, rfl, ?_⟩, by simp [intOf]⟩
        have := HA.out
        simp [resL] at this ⊢
        omega
    · rw [show ((5 : Nat) : Int) = 5 from rfl]
      have hv : ((ByteArray.mk #[92, 124, 42, 40, 41, 91, 93, 46, 45])[5]'(by decide)).toNat = 91 := by decide
      by_cases e : n = 91
      · have hsp : specB n = true := by subst e; decide
        have HS := Lib.hid hsp
        have d1 : ((((ByteArray.mk #[92, 124, 42, 40, 41, 91, 93, 46, 45])[5]'(by decide)).toNat : Int) == (n : Int)) = true := by rw [hv]; simp; omega
        clear hsp e hv
        go_wp2
        go_ret
        exact ⟨by rw [HS.out]; rfl, rfl⟩
      · have d1 : ((((ByteArray.mk #[92, 124, 42, 40, 41, 91, 93, 46, 45])[5]'(by decide)).toNat : Int) == (n : Int)) = false := by rw [hv]; simp; omega
        clear hv
        go_wp2
        refine ⟨⟨6, by decide, rfl, ?_⟩, by simp [intOf]⟩
        have := HA.out
        simp [resL] at this ⊢
        omega
    · rw [show ((6 : Nat) : Int) = 6 from rfl]
      have hv : ((ByteArray.mk #[92, 124, 42, 40, 41, 91, 93, 46, 45])[6]'(by decide)).toNat = 93 := by decide
      by_cases e : n = 93
      · have hsp : specB n = true := by subst e; decide
        have HS := Lib.hid hsp
        have d1 : ((((ByteArray.mk #[92, 124, 42, 40, 41, 91, 93, 46, 45])[6]'(by decide)).toNat : Int) == (n : Int)) = true := by rw [hv]; simp; omega
        clear hsp e hv
        go_wp2
        go_ret
        exact ⟨by rw [HS.out]; rfl, rfl⟩
      · have d1 : ((((ByteArray.mk #[92, 124, 42, 40, 41, 91, 93, 46, 45])[6]'(by decide)).toNat : Int) == (n : Int)) = false := by rw [hv]; simp; omega
        clear hv
        go_wp2
        refine ⟨⟨7, by decide, rfl, ?_⟩, by simp [intOf]⟩
        have := HA.out
        simp [resL] at this ⊢
        omega
    · rw [show ((7 : Nat) : Int) = 7 from rfl]
      have hv : ((ByteArray.mk #[92, 124, 42, 40, 41, 91, 93, 46, 45])[7]'(by decide)).toNat = 46 := by decide
      by_cases e : n = 46
      · have hsp : specB n = true := by subst e; decide
        have HS := Lib.hid hsp
        have d1 : ((((ByteArray.mk #[92, 124, 42, 40, 41, 91, 93, 46, 45])[7]'(by decide)).toNat : Int) == (n : Int)) = true := by rw [hv]; simp; omega
        clear hsp e hv
        go_wp2
        go_ret
        exact ⟨by rw [HS.out]; rfl, rfl⟩
      · have d1 : ((((ByteArray.mk #[92, 124, 42, 40, 41, 91, 93, 46, 45])[7]'(by decide)).toNat : Int) == (n : Int)) = false := by rw [hv]; simp; omega
        clear hv
        go_wp2
        refine ⟨⟨8, by decide, rfl, ?_⟩, by simp [intOf]⟩
        have := HA.out
        simp [resL] at this ⊢
        omega
    · rw [show ((8 : Nat) : Int) = 8 from rfl]
      have hv : ((ByteArray.mk #[92, 124, 42, 40, 41, 91, 93, 46, 45])[8]'(by decide)).toNat = 45 := by decide
      by_cases e : n = 45
      · have hsp : specB n = true := by subst e; decide
        have HS := Lib.hid hsp
        have d1 : ((((ByteArray.mk #[92, 124, 42, 40, 41, 91, 93, 46, 45])[8]'(by decide)).toNat : Int) == (n : Int)) = true := by rw [hv]; simp; omega
        clear hsp e hv
        go_wp2
        go_ret
        exact ⟨by rw [HS.out]; rfl, rfl⟩
      · have d1 : ((((ByteArray.mk #[92, 124, 42, 40, 41, 91, 93, 46, 45])[8]'(by decide)).toNat : Int) == (n : Int)) = false := by rw [hv]; simp; omega
        clear hv
        go_wp2
        refine ⟨⟨9, by decide, rfl, ?_⟩, by simp [intOf]⟩
        have := HA.out
        simp [resL] at this ⊢
        omega
    · have hc := Lib.hid (sp_end HA.out)
      by_cases h1 : n < 33
      · have d1 : decide ((n : Int) < (33 : Int)) = true := by simp; omega
        go_wp2
        go_ret
        exact ⟨by simp [specB, h1], rfl⟩
      · have d1 : decide ((n : Int) < (33 : Int)) = false := by simp; omega
        by_cases h2 : 126 < n
        · have d2 : decide ((126 : Int) < (n : Int)) = true := by simp; omega
          go_wp2
          go_ret
          exact ⟨by simp [specB, h2], rfl⟩
        · have d2 : decide ((126 : Int) < (n : Int)) = false := by simp; omega
          go_wp2
          go_ret
          exact ⟨by simp only [specB, hc.out]; simp [h1, h2], rfl⟩
set_option maxHeartbeats 1000000 in
theorem refSign_any (n : Nat) (w : World) (hn : n < 256) :
    Calls Try.prog 55 #[.int .u8 n] w fun e w' => e = .returned (.string ⟨(signL n).toArray⟩) ∧ Below w.heap.size w w' := by
  by_cases hs : specB n = true
  · rw [signL_spec hn hs]
    have HS := Lib.hid hs
    clear hs
    go_enter Try.func55, Try.ntmps55
    go_wp2_with fail
    refine (special_any n _ hn).mono ?_
    rintro e w1 ⟨rfl, rfl⟩
    rw [HS.out]
    go_wp2_with fail
    refine (refHex_any _ [UInt8.ofNat n] _ _ (one_byte w n hn) (by simp)).mono ?_
    rintro e w1 ⟨rfl, m, rfl⟩
    have hX : (hexL [UInt8.ofNat n]).length ≤ 2 := by rw [hexL_length]; simp
    generalize hXe : hexL [UInt8.ofNat n] = X at *
    have HX := Lib.hid hXe
    clear hXe
    have n1 : ¬ (9223372036854775807 < 1 + X.length) := by omega
    go_wp2
    go_ret
    exact ⟨by rw [HX.out]; rfl, below_drewN ((Below.refl _ w).alloc (Nat.le_refl _) _) _⟩
  · have hs' : specB n = false := by simpa using hs
    rw [signL_plain hs']
    have HS := Lib.hid hs'
    clear hs hs'
    go_enter Try.func55, Try.ntmps55
    go_wp2_with fail
    refine (special_any n _ hn).mono ?_
    rintro e w1 ⟨rfl, rfl⟩
    rw [HS.out]
    have hcv := conv_bytes (one_byte w n hn) 1
    simp only [List.length_singleton] at hcv
    go_wp2
    go_ret
    exact ⟨rfl, (Below.refl _ w).alloc (Nat.le_refl _) _⟩
end Go.Proofs.Ytmkjcbgcikgglaa
