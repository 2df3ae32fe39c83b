/- Both Orders. -/
import Derived.Test.YtdkdgbiagjflgaaDoorSetX
import Derived.Deep.QuietTactic
import Derived.BigQuiet
import Derived.RegionTactic
import Derived.StillTailTactics
import Derived.IntWalk
namespace Go.Proofs.YtdkdgbiagjflgaaDoor
open Go.RowKit
theorem ord_at {s t : Ws} {k : Nat} {c : Int} (hk : k < 4) (h : ∀ j, j < k → s.get j = t.get j) (hc : cmpN (s.get k) (t.get k) = c) (h0 : c ≠ 0) : ordW s t = c := by
  obtain ⟨a, b, c', d⟩ := s
  obtain ⟨a', b', c'', d'⟩ := t
  have hne : (Ws.get ⟨a, b, c', d⟩ k) ≠ Ws.get ⟨a', b', c'', d'⟩ k := by
    intro e; rw [e] at hc; exact h0 (hc.symm.trans (cmpN_zero.2 rfl))
  subst hc
  have hq : k = 0 ∨ k = 1 ∨ k = 2 ∨ k = 3 := by omega
  rcases hq with rfl | rfl | rfl | rfl
  · simp [Ws.get] at hne; simp [ordW, Ws.get, hne]
  · have e0 := h 0 (by decide)
    simp [Ws.get] at hne e0; simp [ordW, Ws.get, hne, e0]
  · have e0 := h 0 (by decide); have e1 := h 1 (by decide)
    simp [Ws.get] at hne e0 e1; simp [ordW, Ws.get, hne, e0, e1]
  · have e0 := h 0 (by decide); have e1 := h 1 (by decide); have e2 := h 2 (by decide)
    simp [Ws.get] at hne e0 e1 e2; simp [ordW, Ws.get, e0, e1, e2]
theorem ord_all {s t : Ws} (h : ∀ j, j < 4 → s.get j = t.get j) : ordW s t = 0 := (ordW_zero s t).2 (Ws.get_ext h)
theorem cmpN_cases (x y : Nat) : cmpN x y = 0 ∨ cmpN x y = -1 ∨ cmpN x y = 1 := by unfold cmpN; split <;> (try split) <;> simp
theorem cmpN_lt {x y : Nat} (h : cmpN x y = -1) : x < y := by unfold cmpN at h; split at h <;> (try split at h) <;> first | assumption | omega
theorem cmpN_gt {x y : Nat} (h : cmpN x y = 1) : y < x := by unfold cmpN at h; split at h <;> (try split at h) <;> first | assumption | omega
theorem get_step {s t : Ws} {k : Nat} (h : ∀ j, j < k → s.get j = t.get j) (e : s.get k = t.get k) : ∀ j, j < k + 1 → s.get j = t.get j := by
  intro j hj
  by_cases h1 : j = k
  · rw [h1]; exact e
  · exact h j (by omega)
def ordInv (s t : Ws) (w : World) (i : Value) (wr : World) : Prop := ∃ k : Nat, k ≤ 4 ∧ i = .int .i64 k ∧ (∀ j, j < k → s.get j = t.get j) ∧ Box wr w.heap.size s ∧ Box wr (w.heap.size + 1) t ∧ Below w.heap.size w wr
theorem below_drewN {B : Nat} {w w' : World} (h : Below B w w') (n : Nat) : Below B w (w'.drewN n) := ⟨h.os, h.tape, h.output, h.size, h.block⟩
end Go.Proofs.YtdkdgbiagjflgaaDoor
