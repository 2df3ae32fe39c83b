/- num.hexValue, num.ReadHex: of an even number of hexadecimal digits the bytes, else none. -/
import Derived.Test.YtglllbolgahacaaNumHexA
import Derived.WalkSmall
namespace Go.Proofs.Ytglllbolgahacaa
open Go.RowKit
def hexOk (c : Int) : Bool := digB c || decide (97 ≤ c ∧ c ≤ 102)
def hexVal (c : Nat) : Nat := if 48 ≤ c ∧ c ≤ 57 then c - 48 else if 97 ≤ c ∧ c ≤ 102 then c - 87 else 0
theorem hexVal_lt (c : Nat) : hexVal c < 16 := by unfold hexVal; split <;> (try split) <;> omega
def pairB (s : ByteArray) (j : Nat) : UInt8 := UInt8.ofNat (16 * hexVal (s.data.toList.getD (2 * j) 0).toNat + hexVal (s.data.toList.getD (2 * j + 1) 0).toNat)
def pairsN (s : ByteArray) (n : Nat) : List UInt8 := (List.range n).map (pairB s)
theorem pairsN_length (s : ByteArray) (n : Nat) : (pairsN s n).length = n := by simp [pairsN]
theorem pairsN_succ (s : ByteArray) (n : Nat) : pairsN s (n + 1) = pairsN s n ++ [pairB s n] := by simp [pairsN, List.range_succ]
def hexAll (s : ByteArray) : Bool := decide (s.size % 2 = 0) && s.data.toList.all fun c => hexOk c.toNat
theorem getD_at (s : ByteArray) (k : Nat) (h : k < s.size) : s.data.toList.getD k 0 = s[k] := by
  have h' : k < s.data.toList.length := by simpa using h
  rw [List.getD_eq_getElem?_getD, List.getElem?_eq_getElem h']; rfl
theorem hexAll_odd (s : ByteArray) (h : s.size % 2 ≠ 0) : hexAll s = false := by simp [hexAll, h]
theorem hexAll_no (s : ByteArray) (k : Nat) (h : k < s.size) (hc : hexOk (s[k]'h).toNat = false) : hexAll s = false := by
  have h' : k < s.data.toList.length := by simpa using h
  have : (s.data.toList.all fun c => hexOk c.toNat) = false := by
    rw [List.all_eq_false]; exact ⟨_, List.getElem_mem h', by rw [bget s k h h', hc]; simp⟩
  simp [hexAll, this]
theorem hexAll_yes (s : ByteArray) (h : s.size % 2 = 0) (hd : ∀ j (hj : j < s.size), hexOk (s[j]'hj).toNat = true) : hexAll s = true := by
  have : (s.data.toList.all fun c => hexOk c.toNat) = true := by
    rw [List.all_eq_true]; intro c hc
    obtain ⟨j, hj, rfl⟩ := List.getElem_of_mem hc
    exact hd j (by simpa using hj)
  simp [hexAll, h, this]
theorem hexOk_cases {c : Nat} (h : hexOk c = true) : (48 ≤ c ∧ c ≤ 57 ∧ digB c = true ∧ hexVal c = c - 48) ∨ (97 ≤ c ∧ c ≤ 102 ∧ digB c = false ∧ hexVal c = c - 87) := by
  simp only [hexOk, digB, Bool.or_eq_true, decide_eq_true_eq, decide_eq_false_iff_not] at h ⊢
  unfold hexVal
  rcases h with h | h
  · left; rw [if_pos (by omega)]; omega
  · right; rw [if_neg (by omega), if_pos (by omega)]; omega
set_option maxHeartbeats 400000 in
theorem hexValue_yes (c : Nat) (w : World) (h : hexOk c = true) :
    Calls Try.prog 16 #[.int .i32 c] w fun e w' => e = .returned (.tuple #[.int .u8 (hexVal c), .bool true]) ∧ w = w' := by
  rcases hexOk_cases h with ⟨h1, h2, h3, h4⟩ | ⟨h1, h2, h3, h4⟩
  · rw [h4]
    clear h h4
    go_enter Try.func16, Try.ntmps16
    go_wp2_with (go_at_call 15; refine (isDigit_any _ _).mono ?_; rintro e w' ⟨rfl, rfl⟩)
    go_ret2
    refine ⟨?_, rfl⟩
    simp
    try omega
  · rw [h4]
    clear h h4
    have d1 : decide ((97 : Int) ≤ (c : Int)) = true := by simp; omega
    have d2 : decide ((c : Int) ≤ (102 : Int)) = true := by simp; omega
    go_enter Try.func16, Try.ntmps16
    go_wp2_with (go_at_call 15; refine (isDigit_any _ _).mono ?_; rintro e w' ⟨rfl, rfl⟩)
    go_ret2
    refine ⟨?_, rfl⟩
    simp
    try omega
set_option maxHeartbeats 400000 in
theorem hexValue_no (c : Nat) (w : World) (h : hexOk c = false) :
    Calls Try.prog 16 #[.int .i32 c] w fun e w' => e = .returned (.tuple #[.int .u8 0, .bool false]) ∧ w = w' := by
  simp only [hexOk, Bool.or_eq_false_iff, decide_eq_false_iff_not] at h
  obtain ⟨h1, h2⟩ := h
  by_cases h3 : 97 ≤ c
  · have d1 : decide ((97 : Int) ≤ (c : Int)) = true := by simp; omega
    have d2 : decide ((c : Int) ≤ (102 : Int)) = false := by simp; omega
    clear h2
    go_enter Try.func16, Try.ntmps16
    go_wp2_with (go_at_call 15; refine (isDigit_any _ _).mono ?_; rintro e w' ⟨rfl, rfl⟩)
    go_ret2
    exact ⟨rfl, rfl⟩
  · have d1 : decide ((97 : Int) ≤ (c : Int)) = false := by simp; omega
    clear h2
    go_enter Try.func16, Try.ntmps16
    go_wp2_with (go_at_call 15; refine (isDigit_any _ _).mono ?_; rintro e w' ⟨rfl, rfl⟩)
    go_ret2
    exact ⟨rfl, rfl⟩
end Go.Proofs.Ytglllbolgahacaa
