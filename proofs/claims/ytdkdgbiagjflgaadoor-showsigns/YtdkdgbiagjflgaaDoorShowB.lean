/- quillref05's Text. -/
import Derived.Test.YtdkdgbiagjflgaaDoorShowA
import Derived.Test.YtdkdgbiagjflgaaDoorRexU
namespace Go.Proofs.YtdkdgbiagjflgaaDoor
open Go.RowKit
theorem node_sets {ok : Nat → Prop} {w : World} (N : Nat) : ∀ (r : Rx), r.size ≤ N → ∀ (b off : Nat), NodeAt ok w b off r → r.SetsOk := by
  induction N with
  | zero => intro r h; have := r.size_pos; omega
  | succ N ih =>
    rintro ⟨k, s, ks⟩ hN b off h
    have hN' : Rx.sizes ks ≤ N := by simp [Rx.size] at hN; omega
    unfold NodeAt at h
    obtain ⟨_, hs, _, al, cap, _, _, _, h3⟩ := h
    unfold Rx.SetsOk
    refine ⟨hs, fun r hr => ?_⟩
    rcases h3 with rfl | ⟨b', off', _, _, _, h4⟩
    · cases hr
    · obtain ⟨i, hi, rfl⟩ := List.getElem_of_mem hr
      exact ih _ (Nat.le_trans (size_kid hi) hN') _ _ (nodesAt_get h4 i hi)
theorem ReAt.sets {ok : Nat → Prop} {w : World} {v : Value} {r : Rx} (h : ReAt ok w v r) : r.SetsOk := by
  obtain ⟨k, s, ks⟩ := r
  obtain ⟨_, hs, al, cap, _, _, _, h3⟩ := h
  unfold Rx.SetsOk
  refine ⟨hs, fun r hr => ?_⟩
  rcases h3 with rfl | ⟨b', off', _, _, _, h4⟩
  · cases hr
  · obtain ⟨i, hi, rfl⟩ := List.getElem_of_mem hr
    exact node_sets _ _ (Nat.le_refl _) _ _ (nodesAt_get h4 i hi)
/-- The text that the document asks for: the empty one, if it may not be. -/
noncomputable def textX (r : Rx) : List UInt8 := if mayR r = true then Classical.epsilon (fun t : List UInt8 => ∃ e : Ex, e.rx = r ∧ t = e.text) else []
theorem textX_no {r : Rx} (h : mayR r = false) : textX r = [] := by simp [textX, h]
theorem textX_yes {e : Ex} (h : mayR e.rx = true) : textX e.rx = e.text := by
  unfold textX
  rw [if_pos h]
  obtain ⟨e', h1, h2⟩ := Classical.epsilon_spec (p := fun t : List UInt8 => ∃ f : Ex, f.rx = e.rx ∧ t = f.text) ⟨e.text, e, rfl, rfl⟩
  rw [h2, Ex.rx_inj e' e h1]
theorem may_good {r : Rx} (h : mayR r = true) : goodR r = true ∧ r.size ≤ 2000 := by
  unfold mayR mayN at h
  simpa using h
theorem may_ex {ok : Nat → Prop} {w : World} {v : Value} {r : Rx} (h : ReAt ok w v r) (hm : mayR r = true) : ∃ e : Ex, e.rx = r ∧ e.Wf ∧ e.size ≤ 2000 := by
  have hg := may_good hm
  obtain ⟨e, h1, h2⟩ := ex_of_good r.size r (Nat.le_refl _) hg.1 h.sets
  exact ⟨e, h1, h2, by rw [← Ex.size_rx, h1]; exact hg.2⟩
theorem textX_length {ok : Nat → Prop} {w : World} {v : Value} {r : Rx} (h : ReAt ok w v r) : (textX r).length ≤ 4100000 := by
  by_cases hm : mayR r = true
  · obtain ⟨e, rfl, h1, h2⟩ := may_ex h hm
    rw [textX_yes hm]
    have := text_length e
    omega
  · rw [textX_no (by simpa using hm)]; simp
set_option maxHeartbeats 1000000 in
theorem refTextX {ok : Nat → Prop} (r : Rx) (v : Value) (w : World) (hbig : r.size ≤ 1000000) (h : ReAt ok w v r) :
    Calls Tryd.prog 9 #[v] w fun x w' => x = .returned (.string ⟨(textX r).toArray⟩) ∧ Below w.heap.size w w' := by
  obtain ⟨x0, x1, x2, x3, x4, xl, xn, xc, rfl⟩ := cells_re h
  have K := Lib.hid fun W (hb : Below w.heap.size w W) => refMay_any r _ W hbig (h.below hb)
  have K2 := Lib.hid fun (hm : mayR r = true) W (hb : Below w.heap.size w W) => show Calls Tryd.prog 17 #[.agg #[.int .u8 x0, .int .u64 x1, .int .u64 x2, .int .u64 x3, .int .u64 x4, .slice xl xn xc]] W fun x w' => x = .returned (.string ⟨(textX r).toArray⟩) ∧ Below W.heap.size W w' from by
    obtain ⟨e, he, h1, h2⟩ := may_ex h hm
    subst he
    rw [textX_yes hm]
    exact refOfX e _ W h1 (by omega) (h.below hb)
  have hno : mayR r = false → textX r = [] := textX_no
  have HNO := Lib.hid hno
  clear h hno
  generalize textX r = T at *
  generalize mayR r = q at *
  go_enter Tryd.func9, Tryd.ntmps9
  go_wp2_with fail
  refine (K.out _ ((Below.refl _ w).alloc (Nat.le_refl _) _)).mono ?_
  rintro e w1 ⟨rfl, hb1⟩
  have hbw : Below w.heap.size w w1 := ((Below.refl _ w).alloc (Nat.le_refl _) _).trans (hb1.mono (by simp))
  have hx := (hb1.block w.heap.size (by simp)).trans (blk_new w _)
  obtain ⟨c0, c1, c2, c3, c4, c5, -⟩ := cellsR hx
  clear hb1 hx
  cases q with
  | true =>
    go_wp2_with fail
    refine (K2.out trivial _ hbw).mono ?_
    rintro e w2 ⟨rfl, hb2⟩
    have hB := hbw.trans (hb2.mono hbw.size)
    clear hb2 hbw c0 c1 c2 c3 c4 c5
    go_wp2
    go_ret
    exact ⟨rfl, hB⟩
  | false =>
    clear c0 c1 c2 c3 c4 c5
    go_wp2
    go_ret
    exact ⟨by rw [HNO.out trivial]; rfl, hbw⟩
end Go.Proofs.YtdkdgbiagjflgaaDoor
