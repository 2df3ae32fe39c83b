/- Whether expressions may be; no program. -/
import Derived.Test.YtdkdgbiagjflgaaDoorRexE
namespace Go.Proofs.YtdkdgbiagjflgaaDoor
mutual
def goodR : Rx → Bool
  | .node k s ks => nodeGood k ks.length (bareB s) && goodRs ks
def goodRs : List Rx → Bool
  | [] => true
  | r :: rs => goodR r && goodRs rs
end
theorem goodRs_append (a b : List Rx) : goodRs (a ++ b) = (goodRs a && goodRs b) := by
  induction a with
  | nil => simp [goodRs]
  | cons x t ih => simp [goodRs, ih, Bool.and_assoc]
/-- Whether an expression may be, where so many nodes are left. -/
def mayN (r : Rx) (n : Nat) : Bool := goodR r && decide (r.size ≤ n)
def mayNs (l : List Rx) (n : Nat) : Bool := goodRs l && decide (Rx.sizes l ≤ n)
def mayR (r : Rx) : Bool := mayN r 2000
theorem mayNs_step {l : List Rx} {n i : Nat} (h : i < l.length) (ht : mayNs (l.take i) n = true) (hk : mayN l[i] (n - Rx.sizes (l.take i)) = true) : mayNs (l.take (i + 1)) n = true := by
  simp [mayNs, mayN] at *
  rw [sizes_take l i h, List.take_succ_eq_append_getElem h, goodRs_append]
  simp [goodRs, ht, hk]; omega
theorem mayNs_stop {l : List Rx} {n i : Nat} (h : i < l.length) (ht : mayNs (l.take i) n = true) (hk : mayN l[i] (n - Rx.sizes (l.take i)) = false) : mayNs l n = false := by
  have e := List.take_append_drop (i + 1) l
  have hs := sizes_append (l.take (i + 1)) (l.drop (i + 1))
  have hg := goodRs_append (l.take (i + 1)) (l.drop (i + 1))
  rw [e] at hs hg
  rw [sizes_take l i h] at hs
  rw [List.take_succ_eq_append_getElem h, goodRs_append] at hg
  simp only [goodRs, Bool.and_true] at hg
  simp only [mayNs, mayN, Bool.and_eq_true, Bool.and_eq_false_iff, decide_eq_true_eq, decide_eq_false_iff_not] at *
  rcases hk with hk | hk
  · left; rw [hg, hk]; simp
  · right; omega
end Go.Proofs.YtdkdgbiagjflgaaDoor
