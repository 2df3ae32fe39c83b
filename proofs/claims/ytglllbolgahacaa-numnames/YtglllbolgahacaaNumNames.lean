/- What is proved: 'quilllaw01.NumNames' answers true for every input, and its argument reads afterwards as before. No condition. -/
import Derived.Test.YtglllbolgahacaaNumAwake
import Derived.Test.YtglllbolgahacaaNumNameB
import Derived.Test.YtglllbolgahacaaNumNameC
import Derived.ProofKit
import Derived.OpenShut
import Derived.ShutString
import Derived.ChangeOld
import Derived.SliceStrings
namespace Go.Proofs.Ytglllbolgahacaa.numNames
open Go.ChangeShapes Go.WideShapes Go.ChangeAt Go.RowKit
set_option linter.unusedVariables false
theorem own : ownKnob Try.prog.godebug = none := by kernel_rfl
theorem laidOut : laidOutB Try.prog = true := by kernel_rfl
theorem cell_lt {w : World} {a : Addr} {v : Value} (h : w.cell? (a.add 0) = some v) : a.block < w.heap.size := by
  unfold World.cell? at h
  have e : (a.add 0).block = a.block := rfl
  rw [e] at h
  rcases Nat.lt_or_ge a.block w.heap.size with g | g
  · exact g
  · rw [Array.getElem?_eq_none g] at h; simp at h
def inv (ss : List ByteArray) (w : World) (u i : Value) (wr : World) : Prop := ∃ k : Nat, k ≤ ss.length ∧ i = .int .i64 k ∧ u = .bool ((ss.take k).all fun s => nameB s.data.toList) ∧ Below w.heap.size w wr
set_option maxHeartbeats 2000000 in
theorem walk (a : Option Addr) (ss : List ByteArray) (cap : Nat) (w : World) (h : StrsAt w a ss) :
    Calls Try.prog 5 #[.slice a ss.length cap] w fun e w' => e = .returned (.bool true) ∧ Below w.heap.size w w' := by
  have hS := Lib.hid h
  have hl := h.2.1
  unfold maxLen at hl
  clear h
  by_cases h20 : 20 < ss.length
  · have d1 : decide ((20 : Int) < (ss.length : Int)) = true := by simp; omega
    go_enter Try.func5, Try.ntmps5
    go_wp2_with fail
    refine (awake_any _).mono ?_
    rintro e w1 ⟨rfl, hb⟩
    go_wp2
    go_ret
    exact ⟨rfl, hb⟩
  have d1 : decide ((20 : Int) < (ss.length : Int)) = false := by simp; omega
  go_enter Try.func5, Try.ntmps5
  go_wp2_with fail
  go_loopw [3, 4] (fun u i wr => inv ss w u i wr) (fun _ i _ => ss.length - (intOf i).toNat)
  case atStart => exact ⟨0, Nat.zero_le _, rfl, rfl, Below.refl _ _⟩
  case round =>
    obtain ⟨k, hk, rfl, rfl, hb⟩ := hrel
    by_cases hlt : k < ss.length
    · obtain ⟨b, off, hab, hblt, hc⟩ : ∃ b off, a = some ⟨b, off, none⟩ ∧ b < w.heap.size ∧ ∀ i (h : i < ss.length), w.cell? ⟨b, off + i, none⟩ = some (.string ss[i]) := by
        rcases hS.out.2.2 with h | h
        · subst h; simp at hlt
        · exact h
      subst hab
      have hcell : wr.cell? ⟨b, off + k, none⟩ = some (.string ss[k]) := by rw [hb.cell (p := ⟨b, off + k, none⟩) hblt]; exact hc k hlt
      clear hc
      have hsz := Lib.hid (hS.out.1 ss[k] (List.getElem_mem _))
      have htk : ((ss.take (k + 1)).all fun s => nameB s.data.toList) = (((ss.take k).all fun s => nameB s.data.toList) && nameB ss[k].data.toList) := by
        rw [List.take_succ_eq_append_getElem hlt, List.all_append]; simp
      have HT := Lib.hid htk
      clear htk
      generalize hg : ((ss.take k).all fun s => nameB s.data.toList) = g at *
      have HG := Lib.hid hg
      clear hg
      by_cases h100 : 100 < ss[k].size
      · have d2 : decide ((100 : Int) < (ss[k].size : Int)) = true := by simp; omega
        go_wp2_with fail
        refine (awake_any _).mono ?_
        rintro e w1 ⟨rfl, hb1⟩
        go_wp2
        go_ret
        exact ⟨rfl, hb.trans (hb1.mono hb.size)⟩
      · have d2 : decide ((100 : Int) < (ss[k].size : Int)) = false := by simp; omega
        cases g with
        | false =>
          go_wp2_with fail
          exact ⟨⟨k + 1, by omega, by go_num, by rw [HT.out]; rfl, hb⟩, by simp [intOf]; omega⟩
        | true =>
          go_wp2_with fail
          refine (refName_any ss[k] _ hsz.out).mono ?_
          rintro e w1 ⟨rfl, rfl⟩
          go_wp2
          exact ⟨⟨k + 1, by omega, by go_num, by rw [HT.out]; rfl, hb⟩, by simp [intOf]; omega⟩
    · have he : ss.take k = ss := List.take_of_length_le (by omega)
      rw [he]
      have hS2 := Lib.hid (hS.out.below hb)
      go_wp2_with fail
      refine (name_any a ss cap _ hS2.out).mono ?_
      rintro e w1 ⟨rfl, hb1⟩
      generalize (ss.all fun s => nameB s.data.toList) = g
      go_wp2_with fail
      refine (awake_any _).mono ?_
      rintro e w2 ⟨rfl, hb2⟩
      go_wp2
      go_ret
      exact ⟨rfl, (hb.trans (hb1.mono hb.size)).trans (hb2.mono (Nat.le_trans hb.size hb1.size))⟩
set_option maxRecDepth 100000 in
theorem lifted (os : Os) (started : os.Started) (H : Type) (enc : TypeId × Value → H) :
    ReturnsInHanded {} Try.checked os 5 .any (Rows.numNamesSpec.pre6 enc Try.prog Try.f5 Rows.numNamesRow.domain false) (Rows.numNamesSpec.post enc Try.prog Try.f5 false true false false) := by
  refine returnsInHanded_of_change (C := Try.checked) own started (by kernel_rfl) Try.func5
    (ChangeSpec.witness6 (enc := enc) (C := Try.checked) false ⟨#[], #[.slice none 0 0], []⟩ 8 (by kernel_rfl) (by kernel_rfl) (by kernel_rfl) (by kernel_rfl)) ?_
  intro W base args ds gs before hval0 hW hcnd _
  have hval : ∀ (j : Nat) t v, Try.f5.params[j]? = some t → args[j]? = some v → Value.okWide Try.prog W .any base t v := hval0
  have hW' := hW
  obtain ⟨p, q, hA0, hV, rfl, hfz, hnd⟩ := hW
  have hA : DataW.TrodAll enc Try.prog W 0 (fun _ => true) true Try.f5.params.toList args.toList ds p := hA0
  rw [Try.params5] at hA hval
  obtain ⟨v0, vs0, d0, ds0, p0, q0, hargs, rfl, rfl, h0, r0⟩ := trodAll_cons hA
  obtain ⟨rfl, rfl, rfl⟩ := trodAll_nil r0
  obtain rfl : args = #[v0] := by cases args; simp_all
  obtain ⟨rfl, rfl⟩ := trodVars_none hV
  obtain ⟨a0, len0, cap0, rfl⟩ := okWide_slice Try.underlying37 (hval 0 37 v0 rfl rfl)
  have k0 := h0
  have lt0 : ∀ x ∈ p0, x.block < W.heap.size := by obtain ⟨m, hm⟩ := k0; exact DataW.trod_lt m _ _ _ hm
  obtain ⟨ss, rfl, w0⟩ : ∃ ss : List ByteArray, ss.length = len0 ∧ StrsAt W a0 ss := by
    obtain ⟨fuel, hf⟩ := h0
    rcases open_strings Try.underlying37 Try.underlying9 (by kernel_rfl) hf with ⟨hcs, _⟩ | ⟨x, l, c, zs, hcs, _, hl, hm, hz, _, hcell, hwz⟩
    · simp [Value.cells] at hcs
      obtain ⟨rfl, rfl, rfl⟩ := hcs
      exact ⟨[], rfl, by simp, by simp, .inl rfl⟩
    · simp [Value.cells] at hcs
      obtain ⟨rfl, rfl, rfl⟩ := hcs
      simp only [if_true] at hz
      refine ⟨zs.take len0, by simp; omega, fun s hs => hwz s (List.mem_of_mem_take hs), by simp; omega, ?_⟩
      by_cases hp : 0 < zs.length
      · obtain ⟨b, off, spot⟩ := x
        have hspot : spot = none := by simpa [Addr.add] using World.cell?_spot (hcell 0 hp)
        subst hspot
        refine .inr ⟨b, off, rfl, cell_lt (hcell 0 hp), fun i h => ?_⟩
        have hi : i < zs.length := by simp at h; omega
        rw [← Go.WideShapes.add_plain, hcell i hi]
        simp [List.getD_eq_getElem?_getD, List.getElem?_eq_getElem hi]
      · left; have : zs = [] := List.eq_nil_of_length_eq_zero (by omega)
        rw [this]; simp
  clear hA0 hval0
  refine (walk a0 ss cap0 W w0).mono fun e W' ⟨he, bel⟩ => ?_
  subst he
  exact ⟨_, rfl, _, _, _, [], _, [], hW', trodAll_mk1 (shut_bool Try.underlying4 _), (trodAll_cons_mk (Below.trod laidOut (by kernel_rfl) (of_decide_eq_true (by kernel_rfl)) k0 bel lt0) trodAll_mk0), rfl, bel.frame _, fun h => by cases h⟩
theorem over : Rows.numNamesRow.holds Try.pinned (OpenSpec.ofChange Rows.numNamesSpec) :=
  OpenClaim.holds_of_wide 5 Try.f5 rfl rfl rfl rfl rfl rfl rfl ⟨rfl, rfl, rfl, rfl, rfl⟩ rfl rfl rfl rfl rfl (by kernel_rfl) Try.func5 (by kernel_rfl)
    (of_decide_eq_true (by kernel_rfl)) (by unfold Func.isWrapper; first | (rw [if_pos (by decide +kernel)]; kernel_rfl) | (rw [if_neg (by decide +kernel)]; exact ⟨rfl, rfl⟩))
    (fun os started H enc _ => lifted os started H enc)
theorem proved : Rows.NumNamesSaid := over
end Go.Proofs.Ytglllbolgahacaa.numNames
