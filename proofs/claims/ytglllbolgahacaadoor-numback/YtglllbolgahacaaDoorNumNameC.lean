import Derived.Test.YtglllbolgahacaaDoorNumNameA
namespace Go.Proofs.YtglllbolgahacaaDoor
open Go.RowKit
set_option maxHeartbeats 400000 in
theorem nameClosure_any (s : ByteArray) (w : World) (hs : s.size ≤ maxLen) :
    Calls Tryd.prog 18 #[.string s] w fun e w' => e = .returned (.bool (!nameB s.data.toList)) ∧ Below w.heap.size w w' := by
  go_enter Tryd.func18, Tryd.ntmps18
  go_wp2_with fail
  refine (isName_any s _ hs).mono ?_
  rintro e w1 ⟨rfl, hb⟩
  go_wp2
  go_ret
  exact ⟨rfl, hb⟩
/-- A slice of strings that was there: nil, or a row of cells in a block that was there. -/
def StrsAt (w : World) (a : Option Addr) (ss : List ByteArray) : Prop :=
  (∀ s ∈ ss, s.size ≤ maxLen) ∧ ss.length ≤ maxLen ∧ (ss = [] ∨ ∃ b off, a = some ⟨b, off, none⟩ ∧ b < w.heap.size ∧ ∀ i (h : i < ss.length), w.cell? ⟨b, off + i, none⟩ = some (.string ss[i]))
theorem StrsAt.below {w w' : World} {a : Option Addr} {ss : List ByteArray} (h : StrsAt w a ss) (hb : Below w.heap.size w w') : StrsAt w' a ss := by
  obtain ⟨h1, h2, h3⟩ := h
  refine ⟨h1, h2, ?_⟩
  rcases h3 with h3 | ⟨b, off, rfl, hlt, hc⟩
  · exact .inl h3
  · exact .inr ⟨b, off, rfl, Nat.lt_of_lt_of_le hlt hb.size, fun i h => by rw [hb.cell (p := ⟨b, off + i, none⟩) hlt]; exact hc i h⟩
def IdxPost (b : Bool) (w : World) (e : Ending) (w' : World) : Prop := ∃ n : Int, decide (0 ≤ n) = b ∧ e = .returned (.int .i64 n) ∧ Below w.heap.size w w'
def idxInv (ss : List ByteArray) (w : World) (i : Value) (wr : World) : Prop := ∃ k : Nat, k ≤ ss.length ∧ i = .int .i64 k ∧ Below w.heap.size w wr ∧ (ss.take k).any (fun s => !nameB s.data.toList) = false
set_option maxHeartbeats 1000000 in
theorem indexNames_any (a : Option Addr) (ss : List ByteArray) (cap : Nat) (w : World) (h : StrsAt w a ss) :
    Calls Tryd.prog 23 #[.slice a ss.length cap, .func (.func 18) #[] #[]] w (IdxPost (ss.any fun s => !nameB s.data.toList) w) := by
  have hS := Lib.hid h
  have hl := h.2.1
  unfold maxLen at hl
  clear h
  go_enter Tryd.func23, Tryd.ntmps23
  go_wp2
  go_loopw [8] (fun i wr => idxInv ss w i wr) (fun i _ => ss.length - (intOf i).toNat)
  case atStart => exact ⟨0, Nat.zero_le _, rfl, Below.refl _ _, rfl⟩
  case round =>
    obtain ⟨k, hk, rfl, hb, hn⟩ := hrel
    have HN := Lib.hid hn
    clear hn
    by_cases hlt : k < ss.length
    · obtain ⟨b, off, hab, hblt, hc⟩ : ∃ b off, a = some ⟨b, off, none⟩ ∧ b < w.heap.size ∧ ∀ i (h : i < ss.length), w.cell? ⟨b, off + i, none⟩ = some (.string ss[i]) := by
        rcases hS.out.2.2 with h | h
        · subst h; simp at hlt
        · exact h
      subst hab
      have hcell : wr.cell? ⟨b, off + k, none⟩ = some (.string ss[k]) := by rw [hb.cell (p := ⟨b, off + k, none⟩) hblt]; exact hc k hlt
      clear hc
      have hsz := Lib.hid (hS.out.1 ss[k] (List.getElem_mem _))
      have htk : (ss.take (k + 1)).any (fun s => !nameB s.data.toList) = !nameB ss[k].data.toList := by
        rw [List.take_succ_eq_append_getElem hlt, List.any_append, HN.out]; simp
      have HT := Lib.hid htk
      clear htk
      by_cases hv : nameB ss[k].data.toList = true
      · go_wp2_with fail
        refine (nameClosure_any ss[k] _ hsz.out).mono ?_
        rintro e w1 ⟨rfl, hb1⟩
        go_wp2
        exact ⟨⟨k + 1, by omega, by go_num, hb.trans (hb1.mono hb.size), by rw [HT.out, hv]; rfl⟩, by simp [intOf]; omega⟩
      · have hv' : nameB ss[k].data.toList = false := by simpa using hv
        clear hv
        go_wp2_with fail
        refine (nameClosure_any ss[k] _ hsz.out).mono ?_
        rintro e w1 ⟨rfl, hb1⟩
        go_wp2
        go_ret
        refine ⟨k, ?_, rfl, hb.trans (hb1.mono hb.size)⟩
        rw [decide_eq_true (by omega)]
        symm
        rw [List.any_eq_true]
        exact ⟨ss[k], List.getElem_mem _, by rw [hv']; rfl⟩
    · go_wp2
      go_ret
      refine ⟨-1, ?_, rfl, hb⟩
      have := HN.out
      rw [List.take_of_length_le (by omega)] at this
      rw [this]; rfl
theorem containsNames_any (a : Option Addr) (ss : List ByteArray) (cap : Nat) (w : World) (h : StrsAt w a ss) :
    Calls Tryd.prog 17 #[.slice a ss.length cap, .func (.func 18) #[] #[]] w fun e w' => e = .returned (.bool (ss.any fun s => !nameB s.data.toList)) ∧ Below w.heap.size w w' := by
  go_enter Tryd.func17, Tryd.ntmps17
  go_wp2_with fail
  refine (indexNames_any a ss cap _ h).mono ?_
  rintro e w1 ⟨n, hn, rfl, hb⟩
  have HN := Lib.hid hn
  clear hn
  go_wp2
  go_ret
  exact ⟨by rw [← HN.out]; rfl, hb⟩
theorem name_any (a : Option Addr) (ss : List ByteArray) (cap : Nat) (w : World) (h : StrsAt w a ss) :
    Calls Tryd.prog 10 #[.slice a ss.length cap] w fun e w' => e = .returned (.bool (ss.all fun s => nameB s.data.toList)) ∧ Below w.heap.size w w' := by
  go_enter Tryd.func10, Tryd.ntmps10
  go_wp2_with fail
  refine (containsNames_any a ss cap _ h).mono ?_
  rintro e w1 ⟨rfl, hb⟩
  go_wp2
  go_ret
  exact ⟨by simp [List.any_eq_not_all_not], hb⟩
end Go.Proofs.YtglllbolgahacaaDoor
