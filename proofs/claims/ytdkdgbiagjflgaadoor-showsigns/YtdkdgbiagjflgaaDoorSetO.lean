/- The document's Text. -/
import Derived.Test.YtdkdgbiagjflgaaDoorSetL
namespace Go.Proofs.YtdkdgbiagjflgaaDoor
open Go.RowKit
def refTxt (s : Ws) (w : World) (o i : Value) (wr : World) : Prop := ∃ (k : Nat) (pre : List UInt8), k ≤ 256 ∧ i = .int .i64 k ∧ o = .string ⟨(91 :: pre).toArray⟩ ∧ pre ++ textOf (fromB s k) = textOf (bytesN s) ∧ Box wr w.heap.size s ∧ Below w.heap.size w wr
def toInv (s : Ws) (k : Nat) (w : World) (v : Value) (wr : World) : Prop := ∃ n t : Nat, k + n ≤ 255 ∧ t = k + n ∧ v = .int .i64 t ∧ (∀ j, j ≤ n → s.has (k + j) = true) ∧ Box wr w.heap.size s ∧ Below w.heap.size w wr
set_option maxHeartbeats 2000000 in
set_option maxRecDepth 100000 in
theorem refText_any (s : Ws) (w : World) (hs : s.Ok) :
    Calls Tryd.prog 32 #[s.v] w fun e w' => e = .returned (.string ⟨(textW s).toArray⟩) ∧ Below w.heap.size w w' := by
  obtain ⟨a, b, c, d⟩ := s
  unfold Ws.v
  go_enter Tryd.func32, Tryd.ntmps32
  go_wp2_with fail
  refine (refBytes_any ⟨a, b, c, d⟩ _ hs).mono ?_
  rintro e w2 ⟨al, cap, rfl, hcap, hb2, hat⟩
  have hN := natsAt_of hat (bytesN_lt _)
  have hx0 : Box w2 w.heap.size ⟨a, b, c, d⟩ := (Box.new4 w a b c d).below hb2 (by simp)
  have hbw : Below w.heap.size w w2 := ((Below.refl _ w).alloc (Nat.le_refl _) _).trans (hb2.mono (by simp))
  have hmax := bytesN_length_le ⟨a, b, c, d⟩
  rw [u8s_length] at hcap ⊢
  clear hb2 hat
  by_cases h256 : (bytesN ⟨a, b, c, d⟩).length = 256
  · have ht : textW ⟨a, b, c, d⟩ = [46] := by unfold textW; rw [if_pos h256]
    have HTX := Lib.hid ht
    have d0 : (((bytesN ⟨a, b, c, d⟩).length : Int) == 256) = true := by simp; omega
    clear ht h256
    generalize (bytesN ⟨a, b, c, d⟩).length = L at *
    go_wp2
    go_ret
    exact ⟨by rw [HTX.out]; rfl, hbw⟩
  have d0 : (((bytesN ⟨a, b, c, d⟩).length : Int) == 256) = false := by simp; omega
  by_cases h1 : (bytesN ⟨a, b, c, d⟩).length = 1
  · obtain ⟨x, hL⟩ := List.length_eq_one_iff.1 h1
    have ht : textW ⟨a, b, c, d⟩ = signL x := by
      unfold textW; rw [hL]; simp
    have HTX := Lib.hid ht
    rw [hL] at hN hcap d0 ⊢
    clear ht hL
    obtain ⟨b', off, hab, hblt, hc⟩ : ∃ b off, al = some ⟨b, off, none⟩ ∧ b < w2.heap.size ∧ ∀ i (h : i < [x].length), w2.cell? ⟨b, off + i, none⟩ = some (.int .u8 ([x][i] : Nat)) := by
      rcases hN.2.2 with h | h
      · simp at h
      · exact h
    subst hab
    have c0 : w2.cell? ⟨b', off, none⟩ = some (.int .u8 x) := by have := hc 0 (by simp); simpa using this
    have hx : x < 256 := hN.1 x (by simp)
    clear hc hN h1 h256
    simp only [List.length_singleton] at *
    go_wp2_with fail
    refine (refSign_any x _ hx).mono ?_
    rintro e w3 ⟨rfl, hb3⟩
    go_wp2
    go_ret
    exact ⟨by rw [HTX.out]; rfl, hbw.trans (hb3.mono hbw.size)⟩
  have d1 : (((bytesN ⟨a, b, c, d⟩).length : Int) == 1) = false := by simp; omega
  have ht : textW ⟨a, b, c, d⟩ = 91 :: (textOf (bytesN ⟨a, b, c, d⟩) ++ [93]) := by
    unfold textW; rw [if_neg h256, if_neg h1]
  have HTX := Lib.hid ht
  clear ht h256 h1 hN
  obtain ⟨LL, hLL⟩ : ∃ LL, (bytesN ⟨a, b, c, d⟩).length = LL := ⟨_, rfl⟩
  rw [hLL] at d0 d1 hcap hmax ⊢
  clear hLL
  go_wp2
  go_loopw [4, 5] (fun o i wr => refTxt ⟨a, b, c, d⟩ w o i wr) (fun _ i _ => 256 - (intOf i).toNat)
  case atStart => exact ⟨0, [], Nat.zero_le _, rfl, rfl, by rw [fromB_zero]; rfl, hx0, hbw⟩
  case round =>
    obtain ⟨k, pre, hk, rfl, rfl, hpre, hx, hb⟩ := hrel
    have HPR := Lib.hid hpre
    clear hpre
    by_cases hlt : k < 256
    · have hlt' : (k : Int) < 256 := by omega
      obtain ⟨⟨c0, c1, c2, c3⟩, -⟩ := hx.all
      by_cases hh : Ws.has ⟨a, b, c, d⟩ k = true
      · have HH := Lib.hid hh
        clear hh
        go_wp2_with fail
        refine (refHas_any ⟨a, b, c, d⟩ k _ hs hlt).mono ?_
        rw [HH.out]
        rintro e w3 ⟨rfl, hb3⟩
        replace hx := hx.below hb3 hx.lt
        replace hb := hb.trans (hb3.mono hb.size)
        clear c0 c1 c2 c3 hb3
        go_wp2
        go_loopw [6] (fun v wr => toInv ⟨a, b, c, d⟩ k w v wr) (fun v _ => 256 - (intOf v).toNat)
        case atStart => exact ⟨0, k, by omega, rfl, rfl, fun j hj => (by rw [show j = 0 from by omega]; exact HH.out), hx, hb⟩
        case round =>
          clear hx hb
          obtain ⟨n, t, hn, ht, rfl, hal, hx, hb⟩ := hrel
          have HAL := Lib.hid hal
          have HTT := Lib.hid ht
          have ht1 : t ≤ k + n := by omega
          have ht2 : k + n ≤ t := by omega
          clear hal ht
          obtain ⟨⟨c0, c1, c2, c3⟩, -⟩ := hx.all
          by_cases h255 : t < 255
          · have g0 : decide ((t : Int) < (255 : Int)) = true := by simp; omega
            by_cases hh2 : Ws.has ⟨a, b, c, d⟩ (t + 1) = true
            · have HH2 := Lib.hid hh2
              clear hh2
              go_wp2_with fail
              refine (refHas_any ⟨a, b, c, d⟩ (t + 1) _ hs (by omega)).mono ?_
              rw [HH2.out]
              rintro e w3 ⟨rfl, hb3⟩
              go_wp2
              refine ⟨⟨n + 1, t + 1, by omega, by rw [HTT.out]; omega, by go_num, ?_, hx.below hb3 hx.lt, hb.trans (hb3.mono hb.size)⟩, by simp [intOf]; omega⟩
              intro j hj
              by_cases e : j = n + 1
              · subst e
                have : k + (n + 1) = t + 1 := by rw [HTT.out]; omega
                rw [this]; exact HH2.out
              · exact HAL.out j (by omega)
            · have hh2' : Ws.has ⟨a, b, c, d⟩ (t + 1) = false := by simpa using hh2
              have HST : k + n + 1 < 256 → Ws.has ⟨a, b, c, d⟩ (k + n + 1) = false := fun _ => by rw [← HTT.out]; exact hh2'
              have HH2 := Lib.hid hh2'
              clear hh2 hh2'
              go_wp2_with fail
              refine (refHas_any ⟨a, b, c, d⟩ (t + 1) _ hs (by omega)).mono ?_
              rw [HH2.out]
              rintro e w3 ⟨rfl, hb3⟩
              replace hx := hx.below hb3 hx.lt
              replace hb := hb.trans (hb3.mono hb.size)
              clear c0 c1 c2 c3 hb3
              have hrun := text_run (s := ⟨a, b, c, d⟩) (b := k) (n := n) (by omega) HAL.out HST
              have hbnd : (pre).length + (textOf (fromB ⟨a, b, c, d⟩ k)).length ≤ 2000 := by
                have h1 := congrArg List.length HPR.out
                have h2 := textOf_length (bytesN ⟨a, b, c, d⟩)
                have h3 := bytesN_length_le ⟨a, b, c, d⟩
                simp at h1; omega
              have hsl := signL_length k
              have hsl2 := signL_length t
              have HRUN := Lib.hid hrun
              clear hrun HST
              obtain ⟨P, hP⟩ : ∃ P : List UInt8, P = 91 :: pre := ⟨_, rfl⟩
              have hPl : P.length ≤ 2001 := by rw [hP]; simp; omega
              rw [← hP]
              have HPP := Lib.hid hP
              clear hP
              go_wp2_with fail
              refine (refSign_any k _ (by omega)).mono ?_
              rintro e w3 ⟨rfl, hb3⟩
              have hx3 := hx.below hb3 hx.lt
              have hbw3 := hb.trans (hb3.mono hb.size)
              clear hb3 hx hb
              generalize hX : signL k = X at *
              have HX := Lib.hid hX
              clear hX
              have m1 : ¬ (9223372036854775807 < P.length + X.length) := by omega
              have m2 : ¬ (9223372036854775807 < P.length + X.length + 1) := by omega
              by_cases hn0 : n = 0
              · have g1 : decide ((k : Int) + 1 < (t : Int)) = false := by simp; omega
                have g2 : decide ((k : Int) < (t : Int)) = false := by simp; omega
                have g3 : ¬ (k : Int) + 1 < (t : Int) := by omega
                have g4 : ¬ (k : Int) < (t : Int) := by omega
                go_wp2
                refine ⟨⟨k + n + 1, pre ++ X, by omega, ?_, ?_, ?_, hx3, hbw3⟩, by simp [intOf]; omega⟩
                · rw [HTT.out]; go_num
                · rw [HPP.out]; congr 1
                · rw [← HPR.out, HRUN.out, hn0]
                  simp [segL, HX.out, List.append_assoc]
              · by_cases hn1 : n = 1
                · have g1 : decide ((k : Int) + 1 < (t : Int)) = false := by simp; omega
                  have g2 : decide ((k : Int) < (t : Int)) = true := by simp; omega
                  have g3 : ¬ (k : Int) + 1 < (t : Int) := by omega
                  have g4 : (k : Int) < (t : Int) := by omega
                  go_wp2_with fail
                  refine (refSign_any t _ (by omega)).mono ?_
                  rintro e w4 ⟨rfl, hb4⟩
                  have hx4 := hx3.below hb4 hx3.lt
                  have hbw4 := hbw3.trans (hb4.mono hbw3.size)
                  clear hb4
                  generalize hY : signL t = Y at *
                  have HY := Lib.hid hY
                  clear hY
                  have m3 : ¬ (9223372036854775807 < P.length + X.length + Y.length) := by omega
                  go_wp2
                  refine ⟨⟨k + n + 1, pre ++ (X ++ Y), by omega, ?_, ?_, ?_, hx4, hbw4⟩, by simp [intOf]; omega⟩
                  · rw [HTT.out]; go_num
                  · rw [HPP.out]; congr 1; apply ByteArray.ext; simp [ByteArray.data_append]
                  · rw [← HPR.out, HRUN.out, ← HX.out, ← HY.out, HTT.out, hn1]
                    simp [segL, List.append_assoc]
                · have g1 : decide ((k : Int) + 1 < (t : Int)) = true := by simp; omega
                  have g2 : decide ((k : Int) < (t : Int)) = true := by simp; omega
                  have g3 : (k : Int) + 1 < (t : Int) := by omega
                  have g4 : (k : Int) < (t : Int) := by omega
                  go_wp2_with fail
                  refine (refSign_any t _ (by omega)).mono ?_
                  rintro e w4 ⟨rfl, hb4⟩
                  have hx4 := hx3.below hb4 hx3.lt
                  have hbw4 := hbw3.trans (hb4.mono hbw3.size)
                  clear hb4
                  generalize hY : signL t = Y at *
                  have HY := Lib.hid hY
                  clear hY
                  have m3 : ¬ (9223372036854775807 < P.length + X.length + 1 + Y.length) := by omega
                  go_wp2
                  refine ⟨⟨k + n + 1, pre ++ (X ++ 45 :: Y), by omega, ?_, ?_, ?_, hx4, hbw4⟩, by simp [intOf]; omega⟩
                  · rw [HTT.out]; go_num
                  · rw [HPP.out]; congr 1; apply ByteArray.ext; simp [ByteArray.data_append]
                  · have e3 : 3 ≤ 1 + n := by omega
                    have e4 : k + (1 + n) - 1 = t := by rw [HTT.out]; omega
                    rw [← HPR.out, HRUN.out, segL, if_pos e3, e4, HX.out, HY.out]
                    simp [List.append_assoc]
          · have g0 : decide ((t : Int) < (255 : Int)) = false := by simp; omega
            have HST : k + n + 1 < 256 → Ws.has ⟨a, b, c, d⟩ (k + n + 1) = false := fun h => by omega
            clear c0 c1 c2 c3
            have hrun := text_run (s := ⟨a, b, c, d⟩) (b := k) (n := n) (by omega) HAL.out HST
            have hbnd : (pre).length + (textOf (fromB ⟨a, b, c, d⟩ k)).length ≤ 2000 := by
              have h1 := congrArg List.length HPR.out
              have h2 := textOf_length (bytesN ⟨a, b, c, d⟩)
              have h3 := bytesN_length_le ⟨a, b, c, d⟩
              simp at h1; omega
            have hsl := signL_length k
            have hsl2 := signL_length t
            have HRUN := Lib.hid hrun
            clear hrun HST
            obtain ⟨P, hP⟩ : ∃ P : List UInt8, P = 91 :: pre := ⟨_, rfl⟩
            have hPl : P.length ≤ 2001 := by rw [hP]; simp; omega
            rw [← hP]
            have HPP := Lib.hid hP
            clear hP
            go_wp2_with fail
            refine (refSign_any k _ (by omega)).mono ?_
            rintro e w3 ⟨rfl, hb3⟩
            have hx3 := hx.below hb3 hx.lt
            have hbw3 := hb.trans (hb3.mono hb.size)
            clear hb3 hx hb
            generalize hX : signL k = X at *
            have HX := Lib.hid hX
            clear hX
            have m1 : ¬ (9223372036854775807 < P.length + X.length) := by omega
            have m2 : ¬ (9223372036854775807 < P.length + X.length + 1) := by omega
            by_cases hn0 : n = 0
            · have g1 : decide ((k : Int) + 1 < (t : Int)) = false := by simp; omega
              have g2 : decide ((k : Int) < (t : Int)) = false := by simp; omega
              have g3 : ¬ (k : Int) + 1 < (t : Int) := by omega
              have g4 : ¬ (k : Int) < (t : Int) := by omega
              go_wp2
              refine ⟨⟨k + n + 1, pre ++ X, by omega, ?_, ?_, ?_, hx3, hbw3⟩, by simp [intOf]; omega⟩
              · rw [HTT.out]; go_num
              · rw [HPP.out]; congr 1
              · rw [← HPR.out, HRUN.out, hn0]
                simp [segL, HX.out, List.append_assoc]
            · by_cases hn1 : n = 1
              · have g1 : decide ((k : Int) + 1 < (t : Int)) = false := by simp; omega
                have g2 : decide ((k : Int) < (t : Int)) = true := by simp; omega
                have g3 : ¬ (k : Int) + 1 < (t : Int) := by omega
                have g4 : (k : Int) < (t : Int) := by omega
                go_wp2_with fail
                refine (refSign_any t _ (by omega)).mono ?_
                rintro e w4 ⟨rfl, hb4⟩
                have hx4 := hx3.below hb4 hx3.lt
                have hbw4 := hbw3.trans (hb4.mono hbw3.size)
                clear hb4
                generalize hY : signL t = Y at *
                have HY := Lib.hid hY
                clear hY
                have m3 : ¬ (9223372036854775807 < P.length + X.length + Y.length) := by omega
                go_wp2
                refine ⟨⟨k + n + 1, pre ++ (X ++ Y), by omega, ?_, ?_, ?_, hx4, hbw4⟩, by simp [intOf]; omega⟩
                · rw [HTT.out]; go_num
                · rw [HPP.out]; congr 1; apply ByteArray.ext; simp [ByteArray.data_append]
                · rw [← HPR.out, HRUN.out, ← HX.out, ← HY.out, HTT.out, hn1]
                  simp [segL, List.append_assoc]
              · have g1 : decide ((k : Int) + 1 < (t : Int)) = true := by simp; omega
                have g2 : decide ((k : Int) < (t : Int)) = true := by simp; omega
                have g3 : (k : Int) + 1 < (t : Int) := by omega
                have g4 : (k : Int) < (t : Int) := by omega
                go_wp2_with fail
                refine (refSign_any t _ (by omega)).mono ?_
                rintro e w4 ⟨rfl, hb4⟩
                have hx4 := hx3.below hb4 hx3.lt
                have hbw4 := hbw3.trans (hb4.mono hbw3.size)
                clear hb4
                generalize hY : signL t = Y at *
                have HY := Lib.hid hY
                clear hY
                have m3 : ¬ (9223372036854775807 < P.length + X.length + 1 + Y.length) := by omega
                go_wp2
                refine ⟨⟨k + n + 1, pre ++ (X ++ 45 :: Y), by omega, ?_, ?_, ?_, hx4, hbw4⟩, by simp [intOf]; omega⟩
                · rw [HTT.out]; go_num
                · rw [HPP.out]; congr 1; apply ByteArray.ext; simp [ByteArray.data_append]
                · have e3 : 3 ≤ 1 + n := by omega
                  have e4 : k + (1 + n) - 1 = t := by rw [HTT.out]; omega
                  rw [← HPR.out, HRUN.out, segL, if_pos e3, e4, HX.out, HY.out]
                  simp [List.append_assoc]
      · have hh' : Ws.has ⟨a, b, c, d⟩ k = false := by simpa using hh
        have HH := Lib.hid hh'
        clear hh hh'
        go_wp2_with fail
        refine (refHas_any ⟨a, b, c, d⟩ k _ hs hlt).mono ?_
        rw [HH.out]
        rintro e w3 ⟨rfl, hb3⟩
        go_wp2
        exact ⟨⟨k + 1, pre, by omega, by go_num, rfl, by rw [← fromB_no hlt HH.out]; exact HPR.out, hx.below hb3 hx.lt, hb.trans (hb3.mono hb.size)⟩, by simp [intOf]; omega⟩
    · obtain rfl : k = 256 := by omega
      have hpe : pre = textOf (bytesN ⟨a, b, c, d⟩) := by rw [← HPR.out, fromB_end, textOf_nil, List.append_nil]
      have hpl : pre.length ≤ 2000 := by
        have h2 := textOf_length (bytesN ⟨a, b, c, d⟩)
        have h3 := bytesN_length_le ⟨a, b, c, d⟩
        rw [hpe]; omega
      have HPE := Lib.hid hpe
      clear hpe
      obtain ⟨P, hP⟩ : ∃ P : List UInt8, P = 91 :: pre := ⟨_, rfl⟩
      have hPl : P.length ≤ 2001 := by rw [hP]; simp; omega
      rw [← hP]
      have HPP := Lib.hid hP
      clear hP
      have m1 : ¬ (9223372036854775807 < P.length + 1) := by omega
      go_wp2
      go_ret
      refine ⟨?_, hb⟩
      rw [HTX.out, ← HPE.out]
      show Ending.returned (.string (ByteArray.mk P.toArray ++ ByteArray.mk #[93])) = _
      rw [HPP.out]
      congr 2
end Go.Proofs.YtdkdgbiagjflgaaDoor
