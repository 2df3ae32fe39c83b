/- What is proved: 'quilllaw01.NumHex' answers true for every input, and its arguments read afterwards as before. No condition. -/
import Derived.Test.YtglllbolgahacaaNumAwake
import Derived.Test.YtglllbolgahacaaNumHexE
import Derived.ProofKit
import Derived.OpenShut
import Derived.ShutString
import Derived.ChangeOld
namespace Go.Proofs.Ytglllbolgahacaa.numHex
open Go.ChangeShapes Go.WideShapes Go.ChangeAt Go.RowKit
open Go.ChangeMaps (open_string shut_string)
set_option linter.unusedVariables false
theorem own : ownKnob Try.prog.godebug = none := by kernel_rfl
theorem laidOut : laidOutB Try.prog = true := by kernel_rfl
theorem conv_bytes (w : World) (a : Option Addr) (l : List UInt8) (cap : Nat) (h : BytesAt w a l) : (convert 29 9 (.slice a l.length cap)).run Try.prog w = .ok (.string ⟨l.toArray⟩) w := by
  cases a with
  | none =>
    have : l = [] := by rcases h.2 with h | ⟨b, off, e, _⟩
                        · exact h
                        · cases e
    subst this
    exact run_convert_bytes_nil w 29 5 Try.underlying29 Try.underlying5 _ _ 9 Try.underlying9
  | some x =>
    refine run_convert_bytes_back w 29 9 5 x cap l Try.underlying29 Try.underlying5 Try.underlying9 ?_
    rcases h.2 with h | ⟨b, off, e, _, hc⟩
    · subst h; intro j hj; simp at hj
    · cases e; intro j hj; rw [Go.WideShapes.add_plain]; exact hc j hj
theorem hexD_ok : ∀ i : Fin 16, hexOk (hexD i.1).toNat = true ∧ hexVal (hexD i.1).toNat = i.1 := by decide
theorem hexD_at (n : Nat) (h : n < 16) : hexOk (hexD n).toNat = true ∧ hexVal (hexD n).toNat = n := hexD_ok ⟨n, h⟩
theorem hexL_all (l : List UInt8) : ((hexL l).all fun c => hexOk c.toNat) = true := by
  induction l with
  | nil => rfl
  | cons c t ih =>
    have h1 := (hexD_at (c.toNat / 16) (by have := c.toNat_lt; omega)).1
    have h2 := (hexD_at (c.toNat % 16) (by omega)).1
    simp only [hexL, List.flatMap_cons, List.all_append, List.all_cons, h1, h2, List.all_nil] at ih ⊢
    simpa using ih
theorem hexL_get (l : List UInt8) (j : Nat) (h : j < l.length) : (hexL l).getD (2 * j) 0 = hexD (l[j].toNat / 16) ∧ (hexL l).getD (2 * j + 1) 0 = hexD (l[j].toNat % 16) := by
  induction l generalizing j with
  | nil => simp at h
  | cons c t ih =>
    have e : hexL (c :: t) = hexD (c.toNat / 16) :: hexD (c.toNat % 16) :: hexL t := rfl
    rw [e]
    cases j with
    | zero => exact ⟨rfl, rfl⟩
    | succ j =>
      have h' : j < t.length := by simpa using h
      rw [show 2 * (j + 1) = 2 * j + 1 + 1 from by omega]
      exact ih j h'
theorem hexL_back (l : List UInt8) : hexAll ⟨(hexL l).toArray⟩ = true ∧ hexBytes ⟨(hexL l).toArray⟩ = l := by
  have hsz : (ByteArray.mk (hexL l).toArray).size = 2 * l.length := by
    have := hexL_length l
    simpa [ByteArray.size] using this
  have ha : hexAll ⟨(hexL l).toArray⟩ = true := by
    unfold hexAll
    rw [hsz]
    have := hexL_all l
    simp only [Bool.and_eq_true, decide_eq_true_eq]
    exact ⟨by omega, this⟩
  refine ⟨ha, ?_⟩
  rw [(hexBytes_yes ha).1, hsz, show 2 * l.length / 2 = l.length from by omega]
  apply List.ext_getElem
  · rw [pairsN_length]
  · intro j h1 h2
    have g := hexL_get l j h2
    simp only [pairsN, List.getElem_map, List.getElem_range]
    unfold pairB
    simp only
    rw [g.1, g.2, (hexD_at _ (by have := l[j].toNat_lt; omega)).2, (hexD_at _ (by omega)).2]
    rw [show 16 * (l[j].toNat / 16) + l[j].toNat % 16 = l[j].toNat from by omega]
    exact UInt8.ofNat_toNat
set_option maxHeartbeats 4000000 in
theorem walk (a : Option Addr) (l : List UInt8) (cap : Nat) (s : ByteArray) (w : World) (h : BytesAt w a l) (hs : s.size ≤ maxLen) :
    Calls Try.prog 4 #[.slice a l.length cap, .string s] w fun e w' => e = .returned (.bool true) ∧ Below w.heap.size w w' := by
  have hB := Lib.hid h
  have HS := Lib.hid hs
  clear h hs
  by_cases h1 : 200 < s.size
  · have d1 : decide ((200 : Int) < (s.size : Int)) = true := by simp; omega
    go_enter Try.func4, Try.ntmps4
    go_wp2_with fail
    refine (awake_any _).mono ?_
    rintro e w1 ⟨rfl, hb⟩
    go_wp2
    go_ret
    exact ⟨rfl, hb⟩
  have d1 : decide ((200 : Int) < (s.size : Int)) = false := by simp; omega
  by_cases h2 : 200 < l.length
  · have d2 : decide ((200 : Int) < (l.length : Int)) = true := by simp; omega
    go_enter Try.func4, Try.ntmps4
    go_wp2_with fail
    refine (awake_any _).mono ?_
    rintro e w1 ⟨rfl, hb⟩
    go_wp2
    go_ret
    exact ⟨rfl, hb⟩
  have d2 : decide ((200 : Int) < (l.length : Int)) = false := by simp; omega
  have hbk := Lib.hid (hexL_back l)
  have hsl : (ByteArray.mk (hexL l).toArray).size ≤ 400 := by
    have := hexL_length l
    have e : (ByteArray.mk (hexL l).toArray).size = (hexL l).length := by simp [ByteArray.size]
    rw [e]; omega
  have HSL := Lib.hid hsl
  clear hsl
  go_enter Try.func4, Try.ntmps4
  go_wp2_with fail
  refine (readHex_any s _ HS.out (by omega)).mono ?_
  rintro e w1 ⟨a1, c1, rfl, hb1, hB1⟩
  have HB1 := Lib.hid hB1
  clear hB1
  go_wp2_with fail
  refine (refReadHex_any s _ (by omega)).mono ?_
  rintro e w2 ⟨a2, c2, rfl, hb2, hB2⟩
  have HB2 := Lib.hid hB2
  clear hB2
  have b2 : Below w.heap.size w w2 := hb1.trans (hb2.mono hb1.size)
  go_wp2_with fail
  refine (hex_any a l cap _ (hB.out.below b2) (by omega)).mono ?_
  rintro e w3 ⟨rfl, hb3⟩
  have b3 : Below w.heap.size w w3 := b2.trans (hb3.mono b2.size)
  go_wp2_with fail
  refine (readHex_any ⟨(hexL l).toArray⟩ _ (by have := HSL.out; unfold maxLen; omega) (by have := HSL.out; omega)).mono ?_
  rintro e w4 ⟨a4, c4, rfl, hb4, hB4⟩
  rw [hbk.out.2] at hB4
  rw [hbk.out.2, (hexBytes_yes hbk.out.1).2]
  have HB4 := Lib.hid hB4
  clear hB4
  have b4 : Below w.heap.size w w4 := b3.trans (hb4.mono b3.size)
  go_wp2_with fail
  refine (hex_any a l cap _ (hB.out.below b4) (by omega)).mono ?_
  rintro e w5 ⟨rfl, hb5⟩
  have b5 : Below w.heap.size w w5 := b4.trans (hb5.mono b4.size)
  go_wp2_with fail
  refine (refHex_any a l cap _ (hB.out.below b5) (by omega)).mono ?_
  rintro e w6 ⟨rfl, n6, rfl⟩
  have b6 : Below w.heap.size w (w5.drewN n6) := below_drewN b5 n6
  have b46 : Below w4.heap.size w4 (w5.drewN n6) := below_drewN hb5 n6
  have b26 : Below w2.heap.size w2 (w5.drewN n6) := below_drewN ((hb3.trans (hb4.mono hb3.size)).trans (hb5.mono (Nat.le_trans hb3.size hb4.size))) n6
  have b16 : Below w1.heap.size w1 (w5.drewN n6) := hb2.trans (b26.mono hb2.size)
  have cv4 := conv_bytes (w5.drewN n6) a4 l c4 (HB4.out.below b46)
  have cv0 := conv_bytes (w5.drewN n6) a l cap (hB.out.below b6)
  have cv1 := conv_bytes (w5.drewN n6) a1 (hexBytes s) c1 (HB1.out.below b16)
  have cv2 := conv_bytes (w5.drewN n6) a2 (hexBytes s) c2 (HB2.out.below b26)
  generalize w5.drewN n6 = W at *
  have hee : (hexErr s = 0 ∧ hexAll s = true) ∨ (hexErr s = 2 ∧ hexAll s = false) := by
    by_cases hx : hexAll s = true
    · left; exact ⟨(hexBytes_yes hx).2, hx⟩
    · right; have hx' : hexAll s = false := by simpa using hx
      exact ⟨(hexBytes_no hx').2, hx'⟩
  generalize hexBytes s = L at *
  generalize (hexL l).toArray = X at *
  generalize l.toArray = Y at *
  generalize L.toArray = Z at *
  clear hb1 hb2 hb3 hb4 hb5 b2 b3 b4 b5 b46 b26 b16 hbk
  rcases hee with ⟨e1, e2⟩ | ⟨e1, e2⟩
  · rw [e1, e2]
    clear e1 e2
    go_wp2_with fail
    refine (awake_any _).mono ?_
    rintro e w7 ⟨rfl, hb7⟩
    go_wp2
    go_ret
    exact ⟨rfl, b6.trans (hb7.mono b6.size)⟩
  · rw [e1, e2]
    clear e1 e2
    go_wp2_with fail
    refine (awake_any _).mono ?_
    rintro e w7 ⟨rfl, hb7⟩
    go_wp2
    go_ret
    exact ⟨rfl, b6.trans (hb7.mono b6.size)⟩
theorem cell_lt {w : World} {a : Addr} {v : Value} (h : w.cell? (a.add 0) = some v) : a.block < w.heap.size := by
  unfold World.cell? at h
  have e : (a.add 0).block = a.block := rfl
  rw [e] at h
  rcases Nat.lt_or_ge a.block w.heap.size with g | g
  · exact g
  · rw [Array.getElem?_eq_none g] at h; simp at h
set_option maxRecDepth 100000 in
theorem lifted (os : Os) (started : os.Started) (H : Type) (enc : TypeId × Value → H) :
    ReturnsInHanded {} Try.checked os 4 .any (Rows.numHexSpec.pre6 enc Try.prog Try.f4 Rows.numHexRow.domain false) (Rows.numHexSpec.post enc Try.prog Try.f4 false true false false) := by
  refine returnsInHanded_of_change (C := Try.checked) own started (by kernel_rfl) Try.func4
    (ChangeSpec.witness6 (enc := enc) (C := Try.checked) false ⟨#[], #[.slice none 0 0, .string ByteArray.empty], []⟩ 8 (by kernel_rfl) (by kernel_rfl) (by kernel_rfl) (by kernel_rfl)) ?_
  intro W base args ds gs before hval0 hW hcnd _
  have hval : ∀ (j : Nat) t v, Try.f4.params[j]? = some t → args[j]? = some v → Value.okWide Try.prog W .any base t v := hval0
  have hW' := hW
  obtain ⟨p, q, hA0, hV, rfl, hfz, hnd⟩ := hW
  have hA : DataW.TrodAll enc Try.prog W 0 (fun _ => true) true Try.f4.params.toList args.toList ds p := hA0
  rw [Try.params4] at hA hval
  obtain ⟨v0, vs0, d0, ds0, p0, q0, hargs, rfl, rfl, h0, r0⟩ := trodAll_cons hA
  obtain ⟨v1, vs1, d1, ds1, p1, q1, rfl, rfl, rfl, h1, r1⟩ := trodAll_cons r0
  obtain ⟨rfl, rfl, rfl⟩ := trodAll_nil r1
  obtain rfl : args = #[v0, v1] := by cases args; simp_all
  obtain ⟨rfl, rfl⟩ := trodVars_none hV
  obtain ⟨a0, len0, cap0, rfl⟩ := okWide_slice Try.underlying29 (hval 0 29 v0 rfl rfl)
  have k0 := h0
  have lt0 : ∀ x ∈ p0, x.block < W.heap.size := by obtain ⟨m, hm⟩ := k0; exact DataW.trod_lt m _ _ _ hm
  obtain ⟨l0, rfl, w0⟩ : ∃ l : List UInt8, l.length = len0 ∧ BytesAt W a0 l := by
    obtain ⟨fuel, hf⟩ := h0
    rcases open_ints Try.underlying29 Try.underlying5 (by kernel_rfl) hf with ⟨hcs, _⟩ | ⟨x, l, c, zs, hcs, _, hl, hm, hz, _, hcell, hwz⟩
    · simp [Value.cells] at hcs
      obtain ⟨rfl, rfl, rfl⟩ := hcs
      exact ⟨[], rfl, by simp, .inl rfl⟩
    · simp [Value.cells] at hcs
      obtain ⟨rfl, rfl, rfl⟩ := hcs
      have hz' : zs.length = cap0 := by simpa using hz
      refine ⟨(zs.take len0).map fun z => UInt8.ofNat z.toNat, by simp; omega, by simp; omega, ?_⟩
      by_cases hp : 0 < zs.length
      · obtain ⟨b, off, spot⟩ := x
        have hspot : spot = none := by simpa [Addr.add] using World.cell?_spot (hcell 0 hp)
        subst hspot
        refine .inr ⟨b, off, rfl, cell_lt (hcell 0 hp), fun i h => ?_⟩
        have hi : i < zs.length := by simp at h; omega
        rw [← Go.WideShapes.add_plain, hcell i hi]
        have hb := bounds_u8 (hwz zs[i] (List.getElem_mem hi))
        simp only [List.getD_eq_getElem?_getD, List.getElem?_eq_getElem hi, Option.getD_some, List.getElem_map, List.getElem_take, UInt8.toNat_ofNat']
        rw [show ((zs[i].toNat % 2 ^ 8 : Nat) : Int) = zs[i] from by omega]
      · left; have : zs = [] := List.eq_nil_of_length_eq_zero (by omega)
        rw [this]; simp
  obtain ⟨a1, rfl, rfl, rfl, w1⟩ := open_string Try.underlying9 (hval 1 9 v1 rfl rfl) h1
  clear hA0 hval0
  refine (walk a0 l0 cap0 a1 W w0 w1).mono fun e W' ⟨he, bel⟩ => ?_
  subst he
  exact ⟨_, rfl, _, _, _, [], _, [], hW', trodAll_mk1 (shut_bool Try.underlying4 _), (trodAll_cons_mk (Below.trod laidOut (by kernel_rfl) (of_decide_eq_true (by kernel_rfl)) k0 bel lt0) (trodAll_cons_mk (shut_string Try.underlying9 w1) trodAll_mk0)), rfl, bel.frame _, fun h => by cases h⟩
theorem over : Rows.numHexRow.holds Try.pinned (OpenSpec.ofChange Rows.numHexSpec) :=
  OpenClaim.holds_of_wide 4 Try.f4 rfl rfl rfl rfl rfl rfl rfl ⟨rfl, rfl, rfl, rfl, rfl⟩ rfl rfl rfl rfl rfl (by kernel_rfl) Try.func4 (by kernel_rfl)
    (of_decide_eq_true (by kernel_rfl)) (by unfold Func.isWrapper; first | (rw [if_pos (by decide +kernel)]; kernel_rfl) | (rw [if_neg (by decide +kernel)]; exact ⟨rfl, rfl⟩))
    (fun os started H enc _ => lifted os started H enc)
theorem proved : Rows.NumHexSaid := over
end Go.Proofs.Ytglllbolgahacaa.numHex
