/- Lemmas of mine, merged: RefHex. -/
import Derived.Deep.QuietTactic
import Derived.BigQuiet
import Derived.IntWalk
import Derived.Test.YtmkjcbgcikgglaaNumHexAAll
/- quillref01's Digit and Hex: the same digits as num's. -/
namespace Go.Proofs.Ytmkjcbgcikgglaa
open Go.RowKit
theorem hexC_ext : ∀ i : Fin 16, (ByteArray.mk #[48, 49, 50, 51, 52, 53, 54, 55, 56, 57, 97, 98, 99, 100, 101, 102]).extract i.1 (i.1 + 1) = ⟨#[hexD i.1]⟩ := by decide
theorem hexC_one (n : Nat) (h : n < 16) : (ByteArray.mk #[48, 49, 50, 51, 52, 53, 54, 55, 56, 57, 97, 98, 99, 100, 101, 102]).extract n (n + 1) = ⟨#[hexD n]⟩ := hexC_ext ⟨n, h⟩
set_option maxHeartbeats 400000 in
theorem digit_any (n : Nat) (w : World) (h : n < 16) :
    Calls Try.prog 76 #[.int .i64 n] w fun e w' => e = .returned (.string ⟨#[hexD n]⟩) ∧ w' = w := by
  go_enter Try.func76, Try.ntmps76
  go_wp2
  go_ret
  refine ⟨?_, rfl⟩
  have e := hexC_one n h
  simpa using e
theorem digit_int (n : Int) (w : World) (h0 : 0 ≤ n) (h : n < 16) :
    Calls Try.prog 76 #[.int .i64 n] w fun e w' => e = .returned (.string ⟨#[hexD n.toNat]⟩) ∧ w' = w := by
  obtain ⟨m, rfl⟩ := Int.eq_ofNat_of_zero_le h0
  exact digit_any m w (by omega)
theorem w16 (c : Nat) (h : c < 256) : IntKind.i64.wrap (c : Int) = (c : Int) ∧ IntKind.i64.wrap ((c : Int) / 16) = (c : Int) / 16 ∧ IntKind.i64.wrap ((c : Int) % 16) = (c : Int) % 16 :=
  ⟨IntWalk.i64_in _ (by omega), IntWalk.i64_in _ (by omega), IntWalk.i64_in _ (by omega)⟩
theorem app2 (X : List UInt8) (a b : UInt8) : (ByteArray.mk X.toArray ++ ByteArray.mk #[a] ++ ByteArray.mk #[b]) = ByteArray.mk (X ++ [a, b]).toArray := by
  apply ByteArray.ext
  simp [ByteArray.data_append]
def refHexInv (l : List UInt8) (w : World) (o i : Value) (wr : World) : Prop := ∃ k n : Nat, k ≤ l.length ∧ i = .int .i64 k ∧ o = .string ⟨(hexL (l.take k)).toArray⟩ ∧ wr = w.drewN n
set_option maxHeartbeats 2000000 in
theorem refHex_any (a : Option Addr) (l : List UInt8) (cap : Nat) (w : World) (h : BytesAt w a l) (hl : l.length ≤ 1000000) :
    Calls Try.prog 67 #[.slice a l.length cap] w fun e w' => e = .returned (.string ⟨(hexL l).toArray⟩) ∧ ∃ n, w' = w.drewN n := by
  have hS := Lib.hid h
  clear h
  go_enter Try.func67, Try.ntmps67
  go_wp2
  go_loopw [3, 7] (fun o i wr => refHexInv l w o i wr) (fun _ i _ => l.length - (intOf i).toNat)
  case atStart => exact ⟨0, 0, Nat.zero_le _, rfl, rfl, rfl⟩
  case round =>
    obtain ⟨k, n, hk, rfl, rfl, rfl⟩ := hrel
    by_cases hlt : k < l.length
    · obtain ⟨b, off, hab, hblt, hc⟩ : ∃ b off, a = some ⟨b, off, none⟩ ∧ b < w.heap.size ∧ ∀ i (h : i < l.length), w.cell? ⟨b, off + i, none⟩ = some (.int .u8 l[i].toNat) := by
        rcases hS.out.2 with h | h
        · subst h; simp at hlt
        · exact h
      subst hab
      have hcell : w.cell? ⟨b, off + k, none⟩ = some (.int .u8 l[k].toNat) := hc k hlt
      have h255 : l[k].toNat < 256 := l[k].toNat_lt
      have hsn : hexL (l.take (k + 1)) = hexL (l.take k) ++ [hexD (l[k].toNat / 16), hexD (l[k].toNat % 16)] := by
        rw [List.take_succ_eq_append_getElem hlt, hexL_snoc]
      have HS := Lib.hid hsn
      have g1 : l[k].toNat / 16 < 16 := by omega
      have g2 : l[k].toNat % 16 < 16 := by omega
      have hcn : (w.drewN n).cell? ⟨b, off + k, none⟩ = some (.int .u8 l[k].toNat) := hcell
      clear hc hsn hcell
      obtain ⟨wx, wd, wm⟩ := w16 l[k].toNat h255
      have hlx : (hexL (l.take k)).length ≤ 2000000 := by rw [hexL_length]; simp; omega
      generalize hexL (l.take k) = X at *
      have n1 : ¬ (9223372036854775807 < X.length + 1) := by omega
      have n2 : ¬ (9223372036854775807 < X.length + 1 + 1) := by omega
      generalize hW : w.drewN n = W at *
      have HW := Lib.hid hW
      clear hW
      go_wp2_with fail
      go_quiet ((go_at_call 76; exact Calls.quiet_of_same (digit_int _ _ (by omega) (by omega))))
      clear wx wd wm
      go_wp2
      refine ⟨⟨k + 1, n + nq, by omega, by go_num, ?_, ?_⟩, by simp [intOf]; omega⟩
      · rw [HS.out, app2]
      · rw [← HW.out, World.drewN_drewN]
    · have he : l.take k = l := List.take_of_length_le (by omega)
      rw [he]
      go_wp2
      go_ret
      exact ⟨rfl, n, rfl⟩
end Go.Proofs.Ytmkjcbgcikgglaa
