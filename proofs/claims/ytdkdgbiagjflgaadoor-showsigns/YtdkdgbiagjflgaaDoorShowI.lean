/- slices.Index and slices.Contains on rows of bytes. -/
import Derived.Test.YtdkdgbiagjflgaaDoorBytesT
namespace Go.Proofs.YtdkdgbiagjflgaaDoor
open Go.RowKit
def anyB (l : List UInt8) (k : Nat) : Bool := l.any fun c => decide (c.toNat = k)
def idxInvB (l : List UInt8) (k : Nat) (w : World) (y : Value) (wr : World) : Prop := ∃ i : Nat, i ≤ l.length ∧ y = .int .i64 i ∧ anyB (l.take i) k = false ∧ Below w.heap.size w wr
def IdxPostB (q : Bool) (w : World) (e : Ending) (w' : World) : Prop := ∃ x : Int, decide (0 ≤ x) = q ∧ e = .returned (.int .i64 x) ∧ Below w.heap.size w w'
set_option maxHeartbeats 2000000 in
theorem indexB_any (l : List UInt8) (k : Nat) (a : Option Addr) (cap : Nat) (w : World) (hl : l.length ≤ 1000) (h : BytesAt w a l) :
    Calls Tryd.prog 66 #[.slice a l.length cap, .int .u8 k] w (IdxPostB (anyB l k) w) := by
  have HR := Lib.hid h
  clear h
  go_enter Tryd.func66, Tryd.ntmps66
  go_wp2
  go_loopw [8] (fun y wr => idxInvB l k w y wr) (fun y _ => l.length - (intOf y).toNat)
  case atStart => exact ⟨0, Nat.zero_le _, rfl, by simp [anyB], Below.refl _ _⟩
  case round =>
    obtain ⟨i, hi, rfl, hmay, hb⟩ := hrel
    have HY := Lib.hid hmay
    clear hmay
    by_cases hlt : i < l.length
    · obtain ⟨b, off, hab, hblt, hc⟩ : ∃ b off, a = some ⟨b, off, none⟩ ∧ b < w.heap.size ∧ ∀ i (h : i < l.length), w.cell? ⟨b, off + i, none⟩ = some (.int .u8 l[i].toNat) := by
        rcases HR.out.2 with h | h
        · subst h; simp at hlt
        · exact h
      subst hab
      have hcell : wr.cell? ⟨b, off + i, none⟩ = some (.int .u8 l[i].toNat) := by rw [hb.cell (p := ⟨b, off + i, none⟩) hblt]; exact hc i hlt
      clear hc
      have htk : anyB (l.take (i + 1)) k = (anyB (l.take i) k || decide (l[i].toNat = k)) := by
        unfold anyB
        rw [List.take_succ_eq_append_getElem hlt, List.any_append]; simp
      have hyes : l[i].toNat = k → anyB l k = true := fun h => by
        unfold anyB
        rw [List.any_eq_true]; exact ⟨l[i], List.getElem_mem hlt, by simpa using h⟩
      generalize l[i].toNat = c at *
      have T1 := Lib.hid htk
      have T2 := Lib.hid hyes
      clear htk hyes
      have q1 : (i : Int) < (l.length : Int) := by omega
      by_cases hck : c = k
      · have d1 : ((k : Int) == (c : Int)) = true := by simp [hck]
        go_wp2
        go_ret
        exact ⟨i, by rw [T2.out hck]; simp, rfl, hb⟩
      · have d1 : ((k : Int) == (c : Int)) = false := by simp; omega
        go_wp2
        exact ⟨⟨i + 1, by omega, by go_num, by rw [T1.out, HY.out]; simp [hck], hb⟩, by simp [intOf]; omega⟩
    · have he : l.take i = l := List.take_of_length_le (by omega)
      rw [he] at HY
      go_wp2
      go_ret
      exact ⟨-1, by rw [HY.out]; rfl, rfl, hb⟩
theorem containsB_any (l : List UInt8) (k : Nat) (a : Option Addr) (cap : Nat) (w : World) (hl : l.length ≤ 1000) (h : BytesAt w a l) :
    Calls Tryd.prog 63 #[.slice a l.length cap, .int .u8 k] w fun e w' => e = .returned (.bool (anyB l k)) ∧ Below w.heap.size w w' := by
  have K := Lib.hid (indexB_any l k a cap w hl h)
  clear h
  generalize anyB l k = q at *
  go_enter Tryd.func63, Tryd.ntmps63
  go_wp2_with fail
  refine K.out.mono ?_
  rintro e w1 ⟨x, hx, rfl, hb⟩
  have HX := Lib.hid hx
  clear hx
  go_wp2
  go_ret
  exact ⟨by rw [← HX.out]; rfl, hb⟩
end Go.Proofs.YtdkdgbiagjflgaaDoor
