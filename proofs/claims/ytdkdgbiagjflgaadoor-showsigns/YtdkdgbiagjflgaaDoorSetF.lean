/- The document's Join and Meet; both Orders. -/
import Derived.Test.YtdkdgbiagjflgaaDoorSetE
import Derived.Deep.QuietTactic
import Derived.BigQuiet
namespace Go.Proofs.YtdkdgbiagjflgaaDoor
open Go.RowKit
/-- Some bytes put into a set, if they are asked for. -/
def pick (p : Nat → Bool) (z : Ws) (k : Nat) : Ws := (List.range k).foldl (fun s n => if p n = true then s.ins n else s) z
theorem pick_succ (p : Nat → Bool) (z : Ws) (k : Nat) : pick p z (k + 1) = if p k = true then (pick p z k).ins k else pick p z k := by
  unfold pick; rw [List.range_succ, List.foldl_append]; rfl
theorem pick_ok (p : Nat → Bool) {z : Ws} (hz : z.Ok) (k : Nat) : (pick p z k).Ok := by
  induction k with
  | zero => exact hz
  | succ k ih => rw [pick_succ]; split
                 · exact Ws.ins_ok ih k
                 · exact ih
theorem pick_has (p : Nat → Bool) (z : Ws) (k : Nat) (hk : k ≤ 256) (m : Nat) (hm : m < 256) : (pick p z k).has m = (z.has m || (decide (m < k) && p m)) := by
  induction k with
  | zero => simp [pick]
  | succ k ih =>
    rw [pick_succ]
    have ih := ih (by omega)
    split
    · rename_i h
      rw [Ws.has_ins _ _ _ (by omega) hm, ih]
      by_cases e : k = m
      · subst e; simp [h]
      · have : decide (m < k + 1) = decide (m < k) := by rw [decide_eq_decide]; omega
        simp [e, this]
    · rename_i h
      rw [ih]
      by_cases e : k = m
      · subst e; simp [h]
      · have : decide (m < k + 1) = decide (m < k) := by rw [decide_eq_decide]; omega
        rw [this]
theorem pick_join {s t : Ws} (hs : s.Ok) (ht : t.Ok) : pick t.has s 256 = s.join t := by
  apply Ws.has_ext (pick_ok _ hs 256) (Ws.join_ok hs ht)
  intro n hn
  rw [pick_has _ _ _ (Nat.le_refl _) n hn, Ws.has_join]
  simp [hn]
def meetP (s t : Ws) (q : Bool) (n : Nat) : Bool := s.has n && (t.has n == q)
theorem pick_meet {s : Ws} (hs : s.Ok) (t : Ws) : pick (meetP s t true) Ws.nil 256 = s.meet t := by
  apply Ws.has_ext (pick_ok _ Ws.nil_ok 256) (Ws.meet_ok hs t)
  intro n hn
  rw [pick_has _ _ _ (Nat.le_refl _) n hn, Ws.has_meet, Ws.has_nil]
  simp [hn, meetP]
theorem pick_less {s t : Ws} (hs : s.Ok) (ht : t.Ok) : pick (meetP s t false) Ws.nil 256 = s.less t := by
  apply Ws.has_ext (pick_ok _ Ws.nil_ok 256) (Ws.less_ok hs t)
  intro n hn
  rw [pick_has _ _ _ (Nat.le_refl _) n hn, Ws.has_less _ _ ht, Ws.has_nil]
  simp [hn, meetP]
/-- Four blocks: both arguments', the result's, the set's that is made. -/
def pickInv (p : Nat → Bool) (z s t : Ws) (w : World) (i : Value) (wr : World) : Prop := ∃ (k : Nat) (u : Ws), k ≤ 256 ∧ u = pick p z k ∧ i = .int .i64 k ∧ Box wr w.heap.size s ∧ Box wr (w.heap.size + 1) t ∧ Box wr (w.heap.size + 1 + 1) Ws.nil ∧ Box wr (w.heap.size + 1 + 1 + 1) u ∧ Below w.heap.size w wr
end Go.Proofs.YtdkdgbiagjflgaaDoor
