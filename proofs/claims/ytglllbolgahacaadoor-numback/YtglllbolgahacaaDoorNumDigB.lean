/- num.Digits; quillref01's Digits and Join: the same bytes. -/
import Derived.Test.YtglllbolgahacaaDoorNumDigA
namespace Go.Proofs.YtglllbolgahacaaDoor
open Go.RowKit
theorem size_mk (l : List UInt8) : (ByteArray.mk l.toArray).size = l.length := by simp [ByteArray.size]
theorem itoa_dig (z : Int) (h0 : 0 ≤ z) (h1 : z ≤ 1000000) : Lib.itoa z = digL z := by
  unfold Lib.itoa digL
  rw [if_neg (by omega), if_pos ⟨h0, h1⟩]
theorem dig_none (z : Int) (h : ¬ (0 ≤ z ∧ z ≤ 1000000)) : digL z = [] := by unfold digL; rw [if_neg h]
theorem digits_end (zs : List Int) (k : Nat) (h : k < zs.length) : joinL (zs.take (k + 1)) = joinL (zs.take k) ++ (if k = 0 then [] else [32]) ++ digL zs[k] := by
  rw [List.take_succ_eq_append_getElem h, joinL_snoc]
  by_cases e : k = 0
  · subst e; simp
  · rw [if_neg e, if_neg]
    simp; constructor
    · exact e
    · intro e2; subst e2; simp at h
set_option maxHeartbeats 2000000 in
theorem digits_any (a : Option Addr) (zs : List Int) (cap : Nat) (w : World) (h : IntsAt w a zs) (hl : zs.length ≤ 1000000) (hp : Pow10 w) :
    Calls Tryd.prog 6 #[.slice a zs.length cap] w fun e w' => e = .returned (.string ⟨(joinL zs).toArray⟩) ∧ Below w.heap.size w w' := by
  have hS := Lib.hid h
  have HP := Lib.hid hp
  have hpos := pow10_pos hp
  clear h hp
  go_enter Tryd.func6, Tryd.ntmps6
  go_wp2
  go_loopw [8] (fun i wr => digInv zs w i wr) (fun i _ => zs.length - (intOf i).toNat)
  case atStart => exact ⟨0, Nat.zero_le _, rfl, Lib.IsBuilderF.of (Lib.fresh_isBuilder _ _ w), (Below.refl _ _).alloc (Nat.le_refl _) _⟩
  case round =>
    obtain ⟨k, hk, rfl, hI, hb⟩ := hrel
    have hsz := hb.size
    by_cases hlt : k < zs.length
    · obtain ⟨b, off, hab, hblt, hc⟩ : ∃ b off, a = some ⟨b, off, none⟩ ∧ b < w.heap.size ∧ ∀ i (h : i < zs.length), w.cell? ⟨b, off + i, none⟩ = some (.int .i64 zs[i]) := by
        rcases hS.out.2 with h | h
        · subst h; simp at hlt
        · exact h
      subst hab
      have hcell : wr.cell? ⟨b, off + k, none⟩ = some (.int .i64 zs[k]) := by rw [hb.cell (p := ⟨b, off + k, none⟩) hblt]; exact hc k hlt
      have hje := Lib.hid (digits_end zs k hlt)
      have hjl := join_len zs k hk
      have HI := Lib.hid hI
      have hb' := Lib.hid hb
      clear hc hI
      -- the blank ahead
      have step : ∀ (wx : World) (X : List UInt8), Lib.IsBuilderF 36 5 w.heap.size w.heap.size (Lib.byteCells X) wx → Below w.heap.size w wx → X.length ≤ 1000002 * k + 1 → (0 ≤ zs[k] ∧ zs[k] ≤ 1000000) →
          Calls Tryd.prog 13 #[.int .i64 zs[k]] wx fun e w' => e = .returned (.string ⟨(digL zs[k]).toArray⟩) ∧ Lib.IsBuilderF 36 5 w.heap.size w.heap.size (Lib.byteCells X) w' ∧ Below w.heap.size w w' := by
        intro wx X hX hbx hlX ⟨z0, z1⟩
        refine (Tryd.strconv_Itoa zs[k] (by omega) (by omega) wx (pow10_below HP.out hbx hpos)).mono ?_
        rintro e w' ⟨rfl, q, os, rfl⟩
        have hg := below_grow wx q os
        exact ⟨by rw [itoa_dig _ z0 z1], builder_below hX hg, hbx.trans (hg.mono hbx.size)⟩
      have HST := Lib.hid step
      clear step
      have hdl := dig_len zs[k]
      by_cases hk0 : k = 0
      · have d0 : decide (0 < k) = false := by simp; omega
        have HE : Hid (joinL (zs.take (k + 1)) = joinL (zs.take k) ++ digL zs[k]) := Lib.hid (by rw [hje.out, if_pos hk0]; simp)
        clear hk0
        by_cases hz : 0 ≤ zs[k] ∧ zs[k] ≤ 1000000
        · have HZ := Lib.hid hz
          have d1 : decide ((0 : Int) ≤ zs[k]) = true := by simp; omega
          have d2 : decide (zs[k] ≤ (1000000 : Int)) = true := by simp; omega
          clear hz
          go_wp2_with fail
          refine (HST.out _ _ HI.out hb'.out (by omega) HZ.out).mono ?_
          rintro e w2 ⟨rfl, hI2, hb2⟩
          have HI2 := Lib.hid hI2
          have Hb2 := Lib.hid hb2
          clear hI2 d1 d2
          go_wp2_with fail
          refine (writeString_any w.heap.size w.heap.size _ _ _ HI2.out (by rw [Lib.byteCells_length, size_mk]; omega) hb2.size).mono ?_
          rintro e w3 ⟨rfl, hI3, hb3⟩
          have HI3 := Lib.hid hI3
          clear hI3
          go_wp2
          refine ⟨⟨k + 1, by omega, by go_num, ?_, Hb2.out.trans hb3⟩, by simp [intOf]; omega⟩
          have := HI3.out
          rw [strCells_mk, ← Lib.byteCells_append] at this
          rw [HE.out]; exact this
        · have HE2 : Hid (joinL (zs.take (k + 1)) = joinL (zs.take k)) := Lib.hid (by rw [HE.out, dig_none _ hz]; simp)
          by_cases hz0 : 0 ≤ zs[k]
          · have d1 : decide ((0 : Int) ≤ zs[k]) = true := by simp; omega
            have d2 : decide (zs[k] ≤ (1000000 : Int)) = false := by simp; omega
            clear hz hz0
            go_wp2
            exact ⟨⟨k + 1, by omega, by go_num, by rw [HE2.out]; exact HI.out, hb'.out⟩, by simp [intOf]; omega⟩
          · have d1 : decide ((0 : Int) ≤ zs[k]) = false := by simp; omega
            clear hz hz0
            go_wp2
            exact ⟨⟨k + 1, by omega, by go_num, by rw [HE2.out]; exact HI.out, hb'.out⟩, by simp [intOf]; omega⟩
      · have d0 : decide (0 < k) = true := by simp; omega
        have HE : Hid (joinL (zs.take (k + 1)) = joinL (zs.take k) ++ [32] ++ digL zs[k]) := Lib.hid (by rw [hje.out, if_neg hk0])
        clear hk0
        go_wp2_with fail
        refine (writeByte_any w.heap.size w.heap.size _ _ _ HI.out (by rw [Lib.byteCells_length]; omega) (by omega)).mono ?_
        rintro e w1 ⟨rfl, hI1, hb1, -⟩
        have HI1 : Hid (Lib.IsBuilderF 36 5 w.heap.size w.heap.size (Lib.byteCells (joinL (zs.take k) ++ [32])) w1) := Lib.hid (by rw [Lib.byteCells_append]; exact hI1)
        have hb1' := Lib.hid (hb.trans hb1)
        clear hI1
        have hcell1 : w1.cell? ⟨b, off + k, none⟩ = some (.int .i64 zs[k]) := by rw [hb1.cell (p := ⟨b, off + k, none⟩) hblt]; exact hcell
        have hsz1 := hb1'.out.size
        clear hcell hb1
        by_cases hz : 0 ≤ zs[k] ∧ zs[k] ≤ 1000000
        · have HZ := Lib.hid hz
          have d1 : decide ((0 : Int) ≤ zs[k]) = true := by simp; omega
          have d2 : decide (zs[k] ≤ (1000000 : Int)) = true := by simp; omega
          clear hz
          go_wp2_with fail
          refine (HST.out _ _ HI1.out hb1'.out (by simp; omega) HZ.out).mono ?_
          rintro e w2 ⟨rfl, hI2, hb2⟩
          have HI2 := Lib.hid hI2
          have Hb2 := Lib.hid hb2
          clear hI2 d1 d2
          go_wp2_with fail
          refine (writeString_any w.heap.size w.heap.size _ _ _ HI2.out (by rw [Lib.byteCells_length, size_mk]; simp; omega) hb2.size).mono ?_
          rintro e w3 ⟨rfl, hI3, hb3⟩
          have HI3 := Lib.hid hI3
          clear hI3
          go_wp2
          refine ⟨⟨k + 1, by omega, by go_num, ?_, Hb2.out.trans hb3⟩, by simp [intOf]; omega⟩
          have := HI3.out
          rw [strCells_mk, ← Lib.byteCells_append] at this
          rw [HE.out]; exact this
        · have HE2 : Hid (joinL (zs.take (k + 1)) = joinL (zs.take k) ++ [32]) := Lib.hid (by rw [HE.out, dig_none _ hz]; simp)
          by_cases hz0 : 0 ≤ zs[k]
          · have d1 : decide ((0 : Int) ≤ zs[k]) = true := by simp; omega
            have d2 : decide (zs[k] ≤ (1000000 : Int)) = false := by simp; omega
            clear hz hz0
            go_wp2
            exact ⟨⟨k + 1, by omega, by go_num, by rw [HE2.out]; exact HI1.out, hb1'.out⟩, by simp [intOf]; omega⟩
          · have d1 : decide ((0 : Int) ≤ zs[k]) = false := by simp; omega
            clear hz hz0
            go_wp2
            exact ⟨⟨k + 1, by omega, by go_num, by rw [HE2.out]; exact HI1.out, hb1'.out⟩, by simp [intOf]; omega⟩
    · have he : zs.take k = zs := List.take_of_length_le (by omega)
      rw [he] at hI
      have hI' := Lib.hid hI
      clear hI he
      go_wp2_with fail
      refine (Tryd.Builder_String_any_k w.heap.size w.heap.size (joinL zs) _ hI'.out (by omega)).mono ?_
      rintro e w1 ⟨rfl, -, hb1, -⟩
      go_wp2
      go_ret
      exact ⟨rfl, hb.trans hb1⟩
end Go.Proofs.YtglllbolgahacaaDoor
