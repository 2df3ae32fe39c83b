/- quillref01's Digit, Digits and Join: the same bytes as num.Digits. -/
import Derived.Test.YtglllbolgahacaaDoorNumDigB
namespace Go.Proofs.YtglllbolgahacaaDoor
open Go.RowKit
theorem hexC_ext : ∀ i : Fin 16, (ByteArray.mk #[48, 49, 50, 51, 52, 53, 54, 55, 56, 57, 97, 98, 99, 100, 101, 102]).extract i.1 (i.1 + 1) = ⟨#[hexD i.1]⟩ := by decide
theorem hexC_one (n : Nat) (h : n < 16) : (ByteArray.mk #[48, 49, 50, 51, 52, 53, 54, 55, 56, 57, 97, 98, 99, 100, 101, 102]).extract n (n + 1) = ⟨#[hexD n]⟩ := hexC_ext ⟨n, h⟩
set_option maxHeartbeats 400000 in
theorem digit_any (n : Nat) (w : World) (h : n < 16) :
    Calls Tryd.prog 22 #[.int .i64 n] w fun e w' => e = .returned (.string ⟨#[hexD n]⟩) ∧ w' = w := by
  go_enter Tryd.func22, Tryd.ntmps22
  go_wp2
  go_ret
  refine ⟨?_, rfl⟩
  have e := hexC_one n h
  simpa using e
theorem digit_int (n : Int) (w : World) (h0 : 0 ≤ n) (h : n < 16) :
    Calls Tryd.prog 22 #[.int .i64 n] w fun e w' => e = .returned (.string ⟨#[hexD n.toNat]⟩) ∧ w = w' := by
  obtain ⟨m, rfl⟩ := Int.eq_ofNat_of_zero_le h0
  exact (digit_any m w (by omega)).mono fun e w' ⟨he, hw⟩ => ⟨he, hw.symm⟩
def decHead (m : Nat) : List UInt8 := if m < 10 then [] else Lib.decDigits (m / 10)
theorem hexD_dec (m : Nat) (h : m < 10) : hexD m = UInt8.ofNat (48 + m) := by simp [hexD, h]
theorem dec_head (m : Nat) : Lib.decDigits m = decHead m ++ [hexD (m % 10)] := by
  rw [Lib.decDigits, decHead]
  split
  · rename_i h
    rw [hexD_dec _ (by omega), show m % 10 = m from by omega]; rfl
  · rw [hexD_dec _ (by omega)]
def refDigInv (n0 : Nat) (n s : Value) : Prop := ∃ (m : Nat) (t : List UInt8), m ≤ 1000000 ∧ n = .int .i64 m ∧ s = .string ⟨t.toArray⟩ ∧ Lib.decDigits n0 = decHead m ++ t
theorem app1 (a : UInt8) (X : List UInt8) : (ByteArray.mk #[a] ++ ByteArray.mk X.toArray) = ByteArray.mk (a :: X).toArray := by
  apply ByteArray.ext
  simp [ByteArray.data_append]
set_option maxHeartbeats 2000000 in
theorem refDigits_any (n : Int) (w : World) :
    Calls Tryd.prog 15 #[.int .i64 n] w fun e w' => e = .returned (.string ⟨(digL n).toArray⟩) ∧ w = w' := by
  by_cases hn : 0 ≤ n ∧ n ≤ 1000000
  · obtain ⟨n0, rfl⟩ := Int.eq_ofNat_of_zero_le hn.1
    have hd : digL (n0 : Int) = Lib.decDigits n0 := by unfold digL; rw [if_pos hn]; simp
    rw [hd]
    have d1 : decide ((n0 : Int) < (0 : Int)) = false := by simp
    have d2 : decide ((1000000 : Int) < (n0 : Int)) = false := by simp; omega
    have hn0 : n0 ≤ 1000000 := by omega
    clear hd hn
    go_enter Tryd.func15, Tryd.ntmps15
    go_wp2_with fail
    refine (digit_int _ _ (by omega) (by omega)).mono ?_
    rintro e w1 ⟨rfl, rfl⟩
    rw [show ((n0 : Int) % 10).toNat = n0 % 10 from by omega]
    go_wp2
    go_loop [0, 3] (fun n s => refDigInv n0 n s) (fun n _ => (intOf n).toNat)
    case atStart => exact ⟨n0, [hexD (n0 % 10)], hn0, rfl, rfl, dec_head n0⟩
    case round =>
      obtain ⟨m, t, hm, rfl, rfl, he⟩ := hrel
      have HE := Lib.hid he
      have hlt : t.length ≤ 1000001 := by
        have := dec_len n0; rw [he] at this; simp at this; omega
      clear he
      by_cases h9 : 9 < m
      · have d3 : decide ((9 : Int) < (m : Int)) = true := by simp; omega
        go_wp2_with fail
        refine (digit_int _ _ (by omega) (by omega)).mono ?_
        rintro e w1 ⟨rfl, rfl⟩
        rw [show ((m : Int) / 10 % 10).toNat = m / 10 % 10 from by omega]
        go_wp2
        rw [app1]
        refine ⟨⟨m / 10, hexD (m / 10 % 10) :: t, by omega, by go_num, rfl, ?_⟩, by simp [intOf]; omega⟩
        rw [HE.out]
        have e1 : decHead m = Lib.decDigits (m / 10) := by unfold decHead; rw [if_neg (by omega)]
        rw [e1, dec_head (m / 10)]; simp
      · have d3 : decide ((9 : Int) < (m : Int)) = false := by simp; omega
        have e1 : decHead m = [] := by unfold decHead; rw [if_pos (by omega)]
        have HF : Hid (Lib.decDigits n0 = t) := Lib.hid (by rw [HE.out, e1]; rfl)
        clear e1
        go_wp2
        go_ret
        exact ⟨by rw [HF.out]; rfl, rfl⟩
  · have hd : digL n = [] := dig_none n hn
    rw [hd]
    clear hd
    by_cases h0 : n < 0
    · have d1 : decide (n < (0 : Int)) = true := by simp; omega
      clear hn h0
      go_enter Tryd.func15, Tryd.ntmps15
      go_wp2
      go_ret
      exact ⟨rfl, rfl⟩
    · have d1 : decide (n < (0 : Int)) = false := by simp; omega
      have d2 : decide ((1000000 : Int) < n) = true := by simp; omega
      clear hn h0
      go_enter Tryd.func15, Tryd.ntmps15
      go_wp2
      go_ret
      exact ⟨rfl, rfl⟩
def refJoinInv (zs : List Int) (o i : Value) : Prop := ∃ k : Nat, k ≤ zs.length ∧ i = .int .i64 k ∧ o = .string ⟨(joinL (zs.take k)).toArray⟩
theorem appL (X Y : List UInt8) : (ByteArray.mk X.toArray ++ ByteArray.mk Y.toArray) = ByteArray.mk (X ++ Y).toArray := by
  apply ByteArray.ext
  simp [ByteArray.data_append]
set_option maxHeartbeats 2000000 in
theorem refJoin_any (a : Option Addr) (zs : List Int) (cap : Nat) (w : World) (h : IntsAt w a zs) (hl : zs.length ≤ 1000000) :
    Calls Tryd.prog 7 #[.slice a zs.length cap] w fun e w' => e = .returned (.string ⟨(joinL zs).toArray⟩) ∧ w = w' := by
  have hS := Lib.hid h
  clear h
  go_enter Tryd.func7, Tryd.ntmps7
  go_wp2
  go_loop [3, 7] (fun o i => refJoinInv zs o i) (fun _ i => zs.length - (intOf i).toNat)
  case atStart => exact ⟨0, Nat.zero_le _, rfl, rfl⟩
  case round =>
    obtain ⟨k, hk, rfl, rfl⟩ := hrel
    by_cases hlt : k < zs.length
    · obtain ⟨b, off, hab, hblt, hc⟩ : ∃ b off, a = some ⟨b, off, none⟩ ∧ b < w.heap.size ∧ ∀ i (h : i < zs.length), w.cell? ⟨b, off + i, none⟩ = some (.int .i64 zs[i]) := by
        rcases hS.out.2 with h | h
        · subst h; simp at hlt
        · exact h
      subst hab
      have hcell : w.cell? ⟨b, off + k, none⟩ = some (.int .i64 zs[k]) := hc k hlt
      have hje := Lib.hid (digits_end zs k hlt)
      have hjl := join_len zs k hk
      have hdl := dig_len zs[k]
      clear hc
      generalize joinL (zs.take k) = X at *
      by_cases hk0 : k = 0
      · have d0 : decide (0 < k) = false := by simp; omega
        have HE : Hid (joinL (zs.take (k + 1)) = X ++ digL zs[k]) := Lib.hid (by rw [hje.out, if_pos hk0]; simp)
        clear hk0
        go_wp2_with fail
        refine (refDigits_any _ _).mono ?_
        rintro e w1 ⟨rfl, rfl⟩
        generalize digL zs[k] = D at *
        have hs : ¬ (9223372036854775807 < X.length + D.length) := by omega
        go_wp2
        rw [appL]
        exact ⟨⟨k + 1, by omega, by go_num, by rw [HE.out]⟩, by simp [intOf]; omega⟩
      · have d0 : decide (0 < k) = true := by simp; omega
        have HE : Hid (joinL (zs.take (k + 1)) = X ++ [32] ++ digL zs[k]) := Lib.hid (by rw [hje.out, if_neg hk0])
        have hs1 : ¬ (9223372036854775807 < X.length + 1) := by omega
        clear hk0
        go_wp2_with fail
        refine (refDigits_any _ _).mono ?_
        rintro e w1 ⟨rfl, rfl⟩
        generalize digL zs[k] = D at *
        have hs : ¬ (9223372036854775807 < X.length + 1 + D.length) := by omega
        go_wp2
        refine ⟨⟨k + 1, by omega, by go_num, ?_⟩, by simp [intOf]; omega⟩
        rw [HE.out, ← appL, ← appL]
    · have he : zs.take k = zs := List.take_of_length_le (by omega)
      rw [he]
      go_wp2
      go_ret
      exact ⟨rfl, rfl⟩
end Go.Proofs.YtglllbolgahacaaDoor
