/- quilllaw05.ShowSigns, walked. -/
import Derived.Test.YtdkdgbiagjflgaaDoorShowE
namespace Go.Proofs.YtdkdgbiagjflgaaDoor
open Go.RowKit
def signsInv (s : ByteArray) (w : World) (v y : Value) (wr : World) : Prop := ∃ (i : Nat) (A : List UInt8), i ≤ s.size ∧ y = .int .i64 i ∧ v = .string ⟨A.toArray⟩ ∧ A = signsL (s.data.toList.take i) ∧ A.length ≤ 3 * i ∧ Below w.heap.size w wr
theorem signs_step (s : ByteArray) (i : Nat) (h : i < s.size) : signsL (s.data.toList.take (i + 1)) = signsL (s.data.toList.take i) ++ signL s[i].toNat := by
  have := signsL_take s.data.toList i (by simpa using h)
  rw [this]
  rfl
set_option maxHeartbeats 4000000 in
theorem showSigns_walk (hText : TextC) (hAwake : AwakeC) (s : ByteArray) (w : World) (hT : Tab w) (hs : s.size ≤ maxLen) :
    Calls Tryd.prog 6 #[.string s] w fun e w' => e = .returned (.bool true) ∧ Below w.heap.size w w' := by
  have KA := Lib.hid fun W (hb : Below w.heap.size w W) => hAwake W (hT.go hb)
  have hmx : s.size ≤ 9223372036854775807 := by unfold maxLen at hs; omega
  by_cases h60 : 60 < s.size
  · have d1 : decide ((60 : Int) < (s.size : Int)) = true := decide_eq_true (by omega)
    have d2 : (60 : Int) < (s.size : Int) := by omega
    clear hText hAwake hT
    go_enter Tryd.func6, Tryd.ntmps6
    go_wp2_with fail
    refine (KA.out _ (Below.refl _ w)).mono ?_
    rintro e w2 ⟨rfl, hb2⟩
    go_wp2
    go_ret
    exact ⟨rfl, hb2⟩
  have d1 : decide ((60 : Int) < (s.size : Int)) = false := decide_eq_false (by omega)
  have d1' : ¬ (60 : Int) < (s.size : Int) := by omega
  by_cases h2 : s.size < 2
  · have d2 : decide ((s.size : Int) < 2) = true := decide_eq_true (by omega)
    have d3 : (s.size : Int) < 2 := by omega
    clear hText hAwake hT
    go_enter Tryd.func6, Tryd.ntmps6
    go_wp2_with fail
    refine (KA.out _ (Below.refl _ w)).mono ?_
    rintro e w2 ⟨rfl, hb2⟩
    go_wp2
    go_ret
    exact ⟨rfl, hb2⟩
  have d2 : decide ((s.size : Int) < 2) = false := decide_eq_false (by omega)
  have d2' : ¬ (s.size : Int) < 2 := by omega
  have HTX := Lib.hid hText
  have HT := Lib.hid hT
  have hlist : s.data.toList.length = s.size := by simp
  have hne : s.data.toList ≠ [] := fun e => by rw [e] at hlist; simp at hlist; omega
  have KW := Lib.hid fun W => word_any s W (by omega)
  have hrx : foldR 4 2 (wordL s) = (wordE s.data.toList).rx := (wordE_rx s.data.toList).symm
  rw [hrx] at KW
  have hsz := wordE_size s.data.toList hne
  have hwf := wordE_wf s.data.toList
  have ht1 : textX (wordE s.data.toList).rx = signsL s.data.toList := by
    rw [textX_yes (may_of hwf (by omega)), wordE_text _ hne]
  have ht2 : textX (Rx.node 6 Ws.nil [(wordE s.data.toList).rx]) = 40 :: (signsL s.data.toList ++ [41, 42]) := by
    rw [show Rx.node 6 Ws.nil [(wordE s.data.toList).rx] = (Ex.star (wordE s.data.toList)).rx from rfl, textX_yes (may_of (e := .star (wordE s.data.toList)) hwf (by simp [Ex.size]; omega)), star_word _ (by omega)]
  have hz1 : (wordE s.data.toList).rx.size ≤ 1000000 := by rw [Ex.size_rx]; omega
  have hz2 : (Rx.node 6 Ws.nil [(wordE s.data.toList).rx]).size ≤ 1000000 := by simp [Rx.size, Rx.sizes, Ex.size_rx]; omega
  have KT1 := Lib.hid fun (ok : Nat → Prop) (v : Value) (W : World) (hb : Below w.heap.size w W) (h : ReAt ok W v (wordE s.data.toList).rx) => HTX.out ok _ v W (HT.out.go hb) hz1 h
  have KT2 := Lib.hid fun (ok : Nat → Prop) (v : Value) (W : World) (hb : Below w.heap.size w W) (h : ReAt ok W v (Rx.node 6 Ws.nil [(wordE s.data.toList).rx])) => HTX.out ok _ v W (HT.out.go hb) hz2 h
  rw [ht1] at KT1
  rw [ht2] at KT2
  have KM := Lib.hid fun (ok : Nat → Prop) (v : Value) (W : World) (h : ReAt ok W v (wordE s.data.toList).rx) => manyX_any _ v W h
  generalize Rx.node 6 Ws.nil [(wordE s.data.toList).rx] = r2 at *
  generalize (wordE s.data.toList).rx = r1 at *
  clear hText hAwake hT HTX hrx hsz hwf ht1 ht2 hz1 hz2 hne hlist
  go_enter Tryd.func6, Tryd.ntmps6
  go_wp2
  go_loopw [3, 4] (fun v y wr => signsInv s w v y wr) (fun _ y _ => s.size - (intOf y).toNat)
  case atStart => exact ⟨0, [], Nat.zero_le _, rfl, rfl, by simp [signsL], by simp, Below.refl _ w⟩
  case round =>
    obtain ⟨i, A, hi, rfl, rfl, hA, hAl, hb⟩ := hrel
    have HA := Lib.hid hA
    clear hA
    by_cases hlt : i < s.size
    · have hst := signs_step s i hlt
      rw [← HA.out] at hst
      have K := Lib.hid fun W => sign_any s[i].toNat W s[i].toNat_lt
      have hl3 := signL_length s[i].toNat
      generalize signL s[i].toNat = T at *
      have HST := Lib.hid hst
      have q1 : (i : Int) < (s.size : Int) := by omega
      have fin : (ByteArray.mk A.toArray ++ ByteArray.mk T.toArray) = ⟨(A ++ T).toArray⟩ := bytes_app A T
      have FIN := Lib.hid fin
      have m1 : ¬ (9223372036854775807 < A.length + T.length) := by omega
      clear hst fin
      go_wp2_with fail
      refine (K.out _).mono ?_
      rintro e w1 ⟨rfl, hb1⟩
      replace hb := hb.trans (hb1.mono hb.size)
      clear hb1
      go_wp2
      exact ⟨⟨i + 1, A ++ T, by omega, by go_num, congrArg Value.string FIN.out, HST.out.symm, by simp; omega, hb⟩, by simp [intOf]; omega⟩
    · have he : s.data.toList.take i = s.data.toList := List.take_of_length_le (by simp; omega)
      rw [he] at HA
      rw [← HA.out] at KT1 KT2
      have q1 : ¬ (i : Int) < (s.size : Int) := by omega
      have hal : A.length ≤ 180 := by omega
      clear he
      go_wp2_with fail
      refine (KW.out _).mono ?_
      rintro e w1 ⟨v, rfl, hv, hb1⟩
      obtain ⟨x0, x1, x2, x3, x4, bl, n', cp, rfl⟩ := cells_re hv
      replace hb := hb.trans (hb1.mono hb.size)
      have HV := Lib.hid hv
      clear hb1 hv KW
      go_wp2_with fail
      have hb2 : Below w1.heap.size w1 (w1.alloc (.cells #[.int .u8 x0, .int .u64 x1, .int .u64 x2, .int .u64 x3, .int .u64 x4, .slice bl n' cp] 30)) := (Below.refl _ w1).alloc (Nat.le_refl _) _
      refine (KT1.out _ _ _ (hb.trans (hb2.mono hb.size)) (HV.out.below hb2)).mono ?_
      rintro e w3 ⟨rfl, hb3⟩
      have hx := (hb3.block w1.heap.size (by simp)).trans (blk_new w1 _)
      obtain ⟨c0, c1, c2, c3, c4, c5, -⟩ := cellsR hx
      have hb4 : Below w1.heap.size w1 w3 := hb2.trans (hb3.mono (by simp))
      replace hb := hb.trans (hb4.mono hb.size)
      have KM3 := Lib.hid (KM.out _ _ w3 (HV.out.below hb4))
      clear hb2 hb3 hb4 hx HV
      go_wp2_with fail
      refine KM3.out.mono ?_
      rintro e w4 ⟨v, rfl, hv, hb4⟩
      obtain ⟨y0, y1, y2, y3, y4, yl, yn, yc, rfl⟩ := cells_re hv
      replace hb := hb.trans (hb4.mono hb.size)
      have K4 := Lib.hid (KT2.out _ _ w4 hb hv)
      clear hb4 hv KM3 c0 c1 c2 c3 c4 c5
      go_wp2_with fail
      refine K4.out.mono ?_
      rintro e w5 ⟨rfl, hb5⟩
      replace hb := hb.trans (hb5.mono hb.size)
      clear hb5
      have m1 : ¬ (9223372036854775807 < 1 + A.length) := by omega
      have m2 : ¬ (9223372036854775807 < 1 + A.length + 2) := by omega
      have fin : (ByteArray.mk [40].toArray ++ ByteArray.mk A.toArray ++ ByteArray.mk [41, 42].toArray) = ⟨(40 :: (A ++ [41, 42])).toArray⟩ := by rw [bytes_app, bytes_app]; simp
      go_wp2_with fail
      refine (KA.out _ hb).mono ?_
      rintro e w6 ⟨rfl, hb6⟩
      have hB := hb.trans (hb6.mono hb.size)
      clear hb hb6
      go_wp2
      go_ret
      exact ⟨rfl, hB⟩
end Go.Proofs.YtdkdgbiagjflgaaDoor
