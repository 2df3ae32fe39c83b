/- Both Orders. -/
import Derived.Test.YthkkeamjigmfhaaSetX
import Derived.Deep.QuietTactic
import Derived.BigQuiet
import Derived.RegionTactic
import Derived.StillTailTactics
import Derived.IntWalk
namespace Go.Proofs.Ythkkeamjigmfhaa
open Go.RowKit
theorem isNaN_any (x : Nat) (w : World) :
    Calls Try.prog 39 #[.int .u64 x] w fun e w' => e = .returned (.bool false) ∧ w = w' := by
  go_enter Try.func39, Try.ntmps39
  go_wp2
  go_ret
  exact ⟨rfl, rfl⟩
set_option maxHeartbeats 1000000 in
theorem compare_any (x y : Nat) (c : Int) (h : cmpN x y = c) (w : World) :
    Calls Try.prog 33 #[.int .u64 x, .int .u64 y] w fun e w' => e = .returned (.int .i64 c) ∧ w' = w := by
  subst h
  unfold cmpN
  by_cases h1 : x < y
  · rw [if_pos h1]
    go_enter Try.func33, Try.ntmps33
    go_wp2_with fail
    refine (isNaN_any x _).mono ?_
    rintro e w1 ⟨rfl, rfl⟩
    go_wp2_with fail
    refine (isNaN_any y _).mono ?_
    rintro e w1 ⟨rfl, rfl⟩
    go_wp2
    go_ret
    exact ⟨rfl, rfl⟩
  · rw [if_neg h1]
    by_cases h2 : y < x
    · rw [if_pos h2]
      go_enter Try.func33, Try.ntmps33
      go_wp2_with fail
      refine (isNaN_any x _).mono ?_
      rintro e w1 ⟨rfl, rfl⟩
      go_wp2_with fail
      refine (isNaN_any y _).mono ?_
      rintro e w1 ⟨rfl, rfl⟩
      go_wp2
      go_ret
      exact ⟨rfl, rfl⟩
    · rw [if_neg h2]
      go_enter Try.func33, Try.ntmps33
      go_wp2_with fail
      refine (isNaN_any x _).mono ?_
      rintro e w1 ⟨rfl, rfl⟩
      go_wp2_with fail
      refine (isNaN_any y _).mono ?_
      rintro e w1 ⟨rfl, rfl⟩
      go_wp2
      go_ret
      exact ⟨rfl, rfl⟩
theorem ord_at {s t : Ws} {k : Nat} {c : Int} (hk : k < 4) (h : ∀ j, j < k → s.get j = t.get j) (hc : cmpN (s.get k) (t.get k) = c) (h0 : c ≠ 0) : ordW s t = c := by
  obtain ⟨a, b, c', d⟩ := s
  obtain ⟨a', b', c'', d'⟩ := t
  have hne : (Ws.get ⟨a, b, c', d⟩ k) ≠ Ws.get ⟨a', b', c'', d'⟩ k := by
    intro e; rw [e] at hc; exact h0 (hc.symm.trans (cmpN_zero.2 rfl))
  subst hc
  have hq : k = 0 ∨ k = 1 ∨ k = 2 ∨ k = 3 := by omega
  rcases hq with rfl | rfl | rfl | rfl
  · simp [Ws.get] at hne; simp [ordW, Ws.get, hne]
  · have e0 := h 0 (by decide)
    simp [Ws.get] at hne e0; simp [ordW, Ws.get, hne, e0]
  · have e0 := h 0 (by decide); have e1 := h 1 (by decide)
    simp [Ws.get] at hne e0 e1; simp [ordW, Ws.get, hne, e0, e1]
  · have e0 := h 0 (by decide); have e1 := h 1 (by decide); have e2 := h 2 (by decide)
    simp [Ws.get] at hne e0 e1 e2; simp [ordW, Ws.get, e0, e1, e2]
theorem ord_all {s t : Ws} (h : ∀ j, j < 4 → s.get j = t.get j) : ordW s t = 0 := (ordW_zero s t).2 (Ws.get_ext h)
theorem cmpN_cases (x y : Nat) : cmpN x y = 0 ∨ cmpN x y = -1 ∨ cmpN x y = 1 := by unfold cmpN; split <;> (try split) <;> simp
theorem cmpN_lt {x y : Nat} (h : cmpN x y = -1) : x < y := by unfold cmpN at h; split at h <;> (try split at h) <;> first | assumption | omega
theorem cmpN_gt {x y : Nat} (h : cmpN x y = 1) : y < x := by unfold cmpN at h; split at h <;> (try split at h) <;> first | assumption | omega
theorem get_step {s t : Ws} {k : Nat} (h : ∀ j, j < k → s.get j = t.get j) (e : s.get k = t.get k) : ∀ j, j < k + 1 → s.get j = t.get j := by
  intro j hj
  by_cases h1 : j = k
  · rw [h1]; exact e
  · exact h j (by omega)
def ordInv (s t : Ws) (w : World) (i : Value) (wr : World) : Prop := ∃ k : Nat, k ≤ 4 ∧ i = .int .i64 k ∧ (∀ j, j < k → s.get j = t.get j) ∧ Box wr w.heap.size s ∧ Box wr (w.heap.size + 1) t ∧ Below w.heap.size w wr
theorem below_drewN {B : Nat} {w w' : World} (h : Below B w w') (n : Nat) : Below B w (w'.drewN n) := ⟨h.os, h.tape, h.output, h.size, h.block⟩
set_option maxHeartbeats 2000000 in
theorem order_any (s t : Ws) (w : World) :
    Calls Try.prog 23 #[s.v, t.v] w fun e w' => e = .returned (.int .i64 (ordW s t)) ∧ Below w.heap.size w w' := by
  obtain ⟨a, b, c, d⟩ := s
  obtain ⟨a', b', c', d'⟩ := t
  unfold Ws.v
  go_enter Try.func23, Try.ntmps23
  go_wp2
  go_loopw [7] (fun i wr => ordInv ⟨a, b, c, d⟩ ⟨a', b', c', d'⟩ w i wr) (fun i _ => 4 - (intOf i).toNat)
  case atStart =>
    refine ⟨0, Nat.zero_le _, rfl, fun j hj => by omega, (Box.new4 w _ _ _ _).alloc _, ?_, ((Below.refl _ w).alloc (Nat.le_refl _) _).alloc (by simp) _⟩
    have := Box.new4 (w.alloc (.cells #[.int .u64 a, .int .u64 b, .int .u64 c, .int .u64 d] 24)) a' b' c' d'
    simpa using this
  case round =>
    obtain ⟨k, hk, rfl, he, hx, hy, hb⟩ := hrel
    have HE := Lib.hid he
    clear he
    obtain ⟨⟨c0, c1, c2, c3⟩, -⟩ := hx.all
    obtain ⟨⟨d0, d1, d2, d3⟩, -⟩ := hy.all
    have hq : k = 0 ∨ k = 1 ∨ k = 2 ∨ k = 3 ∨ k = 4 := by omega
    rcases hq with rfl | rfl | rfl | rfl | rfl
    · rcases cmpN_cases a a' with h1 | h1 | h1
      · have H1 := Lib.hid h1
        clear h1
        go_wp2_with fail
        go_quiet ((go_at_call 33; exact Calls.quiet_of_same (compare_any _ _ _ H1.out _)))
        go_wp2
        refine ⟨⟨1, by decide, rfl, ?_, hx.drewN _, hy.drewN _, below_drewN hb _⟩, by simp [intOf]⟩
        exact get_step HE.out (cmpN_zero.1 H1.out)
      · have H1 := Lib.hid h1
        clear h1
        go_wp2_with fail
        go_quiet ((go_at_call 33; exact Calls.quiet_of_same (compare_any _ _ _ H1.out _)))
        go_wp2
        go_ret
        exact ⟨by rw [ord_at (by decide) HE.out H1.out (by decide)]; rfl, below_drewN hb _⟩
      · have H1 := Lib.hid h1
        clear h1
        go_wp2_with fail
        go_quiet ((go_at_call 33; exact Calls.quiet_of_same (compare_any _ _ _ H1.out _)))
        go_wp2
        go_ret
        exact ⟨by rw [ord_at (by decide) HE.out H1.out (by decide)]; rfl, below_drewN hb _⟩
    · rcases cmpN_cases b b' with h1 | h1 | h1
      · have H1 := Lib.hid h1
        clear h1
        go_wp2_with fail
        go_quiet ((go_at_call 33; exact Calls.quiet_of_same (compare_any _ _ _ H1.out _)))
        go_wp2
        refine ⟨⟨2, by decide, rfl, ?_, hx.drewN _, hy.drewN _, below_drewN hb _⟩, by simp [intOf]⟩
        exact get_step HE.out (cmpN_zero.1 H1.out)
      · have H1 := Lib.hid h1
        clear h1
        go_wp2_with fail
        go_quiet ((go_at_call 33; exact Calls.quiet_of_same (compare_any _ _ _ H1.out _)))
        go_wp2
        go_ret
        exact ⟨by rw [ord_at (by decide) HE.out H1.out (by decide)]; rfl, below_drewN hb _⟩
      · have H1 := Lib.hid h1
        clear h1
        go_wp2_with fail
        go_quiet ((go_at_call 33; exact Calls.quiet_of_same (compare_any _ _ _ H1.out _)))
        go_wp2
        go_ret
        exact ⟨by rw [ord_at (by decide) HE.out H1.out (by decide)]; rfl, below_drewN hb _⟩
    · rcases cmpN_cases c c' with h1 | h1 | h1
      · have H1 := Lib.hid h1
        clear h1
        go_wp2_with fail
        go_quiet ((go_at_call 33; exact Calls.quiet_of_same (compare_any _ _ _ H1.out _)))
        go_wp2
        refine ⟨⟨3, by decide, rfl, ?_, hx.drewN _, hy.drewN _, below_drewN hb _⟩, by simp [intOf]⟩
        exact get_step HE.out (cmpN_zero.1 H1.out)
      · have H1 := Lib.hid h1
        clear h1
        go_wp2_with fail
        go_quiet ((go_at_call 33; exact Calls.quiet_of_same (compare_any _ _ _ H1.out _)))
        go_wp2
        go_ret
        exact ⟨by rw [ord_at (by decide) HE.out H1.out (by decide)]; rfl, below_drewN hb _⟩
      · have H1 := Lib.hid h1
        clear h1
        go_wp2_with fail
        go_quiet ((go_at_call 33; exact Calls.quiet_of_same (compare_any _ _ _ H1.out _)))
        go_wp2
        go_ret
        exact ⟨by rw [ord_at (by decide) HE.out H1.out (by decide)]; rfl, below_drewN hb _⟩
    · rcases cmpN_cases d d' with h1 | h1 | h1
      · have H1 := Lib.hid h1
        clear h1
        go_wp2_with fail
        go_quiet ((go_at_call 33; exact Calls.quiet_of_same (compare_any _ _ _ H1.out _)))
        go_wp2
        refine ⟨⟨4, by decide, rfl, ?_, hx.drewN _, hy.drewN _, below_drewN hb _⟩, by simp [intOf]⟩
        exact get_step HE.out (cmpN_zero.1 H1.out)
      · have H1 := Lib.hid h1
        clear h1
        go_wp2_with fail
        go_quiet ((go_at_call 33; exact Calls.quiet_of_same (compare_any _ _ _ H1.out _)))
        go_wp2
        go_ret
        exact ⟨by rw [ord_at (by decide) HE.out H1.out (by decide)]; rfl, below_drewN hb _⟩
      · have H1 := Lib.hid h1
        clear h1
        go_wp2_with fail
        go_quiet ((go_at_call 33; exact Calls.quiet_of_same (compare_any _ _ _ H1.out _)))
        go_wp2
        go_ret
        exact ⟨by rw [ord_at (by decide) HE.out H1.out (by decide)]; rfl, below_drewN hb _⟩
    · go_wp2
      go_ret
      exact ⟨by rw [ord_all HE.out]; rfl, hb⟩
set_option maxHeartbeats 2000000 in
theorem refOrder_any (s t : Ws) (w : World) :
    Calls Try.prog 25 #[s.v, t.v] w fun e w' => e = .returned (.int .i64 (ordW s t)) ∧ Below w.heap.size w w' := by
  obtain ⟨a, b, c, d⟩ := s
  obtain ⟨a', b', c', d'⟩ := t
  unfold Ws.v
  go_enter Try.func25, Try.ntmps25
  go_wp2
  go_loopw [5] (fun i wr => ordInv ⟨a, b, c, d⟩ ⟨a', b', c', d'⟩ w i wr) (fun i _ => 4 - (intOf i).toNat)
  case atStart =>
    refine ⟨0, Nat.zero_le _, rfl, fun j hj => by omega, (Box.new4 w _ _ _ _).alloc _, ?_, ((Below.refl _ w).alloc (Nat.le_refl _) _).alloc (by simp) _⟩
    have := Box.new4 (w.alloc (.cells #[.int .u64 a, .int .u64 b, .int .u64 c, .int .u64 d] 24)) a' b' c' d'
    simpa using this
  case round =>
    obtain ⟨k, hk, rfl, he, hx, hy, hb⟩ := hrel
    have HE := Lib.hid he
    clear he
    obtain ⟨⟨c0, c1, c2, c3⟩, -⟩ := hx.all
    obtain ⟨⟨d0, d1, d2, d3⟩, -⟩ := hy.all
    have hq : k = 0 ∨ k = 1 ∨ k = 2 ∨ k = 3 ∨ k = 4 := by omega
    rcases hq with rfl | rfl | rfl | rfl | rfl
    · rcases cmpN_cases a a' with h1 | h1 | h1
      · have H1 := Lib.hid h1
        have hlt1 : ¬ a < a' := by have := cmpN_zero.1 h1; omega
        have hlt2 : ¬ a' < a := by have := cmpN_zero.1 h1; omega
        clear h1
        go_wp2_with fail
        go_quiet (fail)
        replace hx := hx.drewN nq
        replace hy := hy.drewN nq
        replace hb := below_drewN hb nq
        clear c0 c1 c2 c3 d0 d1 d2 d3
        generalize wr.drewN nq = w2 at *
        obtain ⟨⟨c0, c1, c2, c3⟩, -⟩ := hx.all
        obtain ⟨⟨d0, d1, d2, d3⟩, -⟩ := hy.all
        go_wp2_with fail
        go_quiet (fail)
        go_wp2
        refine ⟨⟨1, by decide, rfl, ?_, hx.drewN _, hy.drewN _, below_drewN hb _⟩, by simp [intOf]⟩
        exact get_step HE.out (cmpN_zero.1 H1.out)
      · have H1 := Lib.hid h1
        have hlt1 : a < a' := cmpN_lt h1
        clear h1
        go_wp2_with fail
        go_quiet (fail)
        go_wp2
        go_ret
        exact ⟨by rw [ord_at (by decide) HE.out H1.out (by decide)]; rfl, below_drewN hb _⟩
      · have H1 := Lib.hid h1
        have hlt1 : ¬ a < a' := by have := cmpN_gt h1; omega
        have hlt2 : a' < a := cmpN_gt h1
        clear h1
        go_wp2_with fail
        go_quiet (fail)
        replace hx := hx.drewN nq
        replace hy := hy.drewN nq
        replace hb := below_drewN hb nq
        clear c0 c1 c2 c3 d0 d1 d2 d3
        generalize wr.drewN nq = w2 at *
        obtain ⟨⟨c0, c1, c2, c3⟩, -⟩ := hx.all
        obtain ⟨⟨d0, d1, d2, d3⟩, -⟩ := hy.all
        go_wp2_with fail
        go_quiet (fail)
        go_wp2
        go_ret
        exact ⟨by rw [ord_at (by decide) HE.out H1.out (by decide)]; rfl, below_drewN hb _⟩
    · rcases cmpN_cases b b' with h1 | h1 | h1
      · have H1 := Lib.hid h1
        have hlt1 : ¬ b < b' := by have := cmpN_zero.1 h1; omega
        have hlt2 : ¬ b' < b := by have := cmpN_zero.1 h1; omega
        clear h1
        go_wp2_with fail
        go_quiet (fail)
        replace hx := hx.drewN nq
        replace hy := hy.drewN nq
        replace hb := below_drewN hb nq
        clear c0 c1 c2 c3 d0 d1 d2 d3
        generalize wr.drewN nq = w2 at *
        obtain ⟨⟨c0, c1, c2, c3⟩, -⟩ := hx.all
        obtain ⟨⟨d0, d1, d2, d3⟩, -⟩ := hy.all
        go_wp2_with fail
        go_quiet (fail)
        go_wp2
        refine ⟨⟨2, by decide, rfl, ?_, hx.drewN _, hy.drewN _, below_drewN hb _⟩, by simp [intOf]⟩
        exact get_step HE.out (cmpN_zero.1 H1.out)
      · have H1 := Lib.hid h1
        have hlt1 : b < b' := cmpN_lt h1
        clear h1
        go_wp2_with fail
        go_quiet (fail)
        go_wp2
        go_ret
        exact ⟨by rw [ord_at (by decide) HE.out H1.out (by decide)]; rfl, below_drewN hb _⟩
      · have H1 := Lib.hid h1
        have hlt1 : ¬ b < b' := by have := cmpN_gt h1; omega
        have hlt2 : b' < b := cmpN_gt h1
        clear h1
        go_wp2_with fail
        go_quiet (fail)
        replace hx := hx.drewN nq
        replace hy := hy.drewN nq
        replace hb := below_drewN hb nq
        clear c0 c1 c2 c3 d0 d1 d2 d3
        generalize wr.drewN nq = w2 at *
        obtain ⟨⟨c0, c1, c2, c3⟩, -⟩ := hx.all
        obtain ⟨⟨d0, d1, d2, d3⟩, -⟩ := hy.all
        go_wp2_with fail
        go_quiet (fail)
        go_wp2
        go_ret
        exact ⟨by rw [ord_at (by decide) HE.out H1.out (by decide)]; rfl, below_drewN hb _⟩
    · rcases cmpN_cases c c' with h1 | h1 | h1
      · have H1 := Lib.hid h1
        have hlt1 : ¬ c < c' := by have := cmpN_zero.1 h1; omega
        have hlt2 : ¬ c' < c := by have := cmpN_zero.1 h1; omega
        clear h1
        go_wp2_with fail
        go_quiet (fail)
        replace hx := hx.drewN nq
        replace hy := hy.drewN nq
        replace hb := below_drewN hb nq
        clear c0 c1 c2 c3 d0 d1 d2 d3
        generalize wr.drewN nq = w2 at *
        obtain ⟨⟨c0, c1, c2, c3⟩, -⟩ := hx.all
        obtain ⟨⟨d0, d1, d2, d3⟩, -⟩ := hy.all
        go_wp2_with fail
        go_quiet (fail)
        go_wp2
        refine ⟨⟨3, by decide, rfl, ?_, hx.drewN _, hy.drewN _, below_drewN hb _⟩, by simp [intOf]⟩
        exact get_step HE.out (cmpN_zero.1 H1.out)
      · have H1 := Lib.hid h1
        have hlt1 : c < c' := cmpN_lt h1
        clear h1
        go_wp2_with fail
        go_quiet (fail)
        go_wp2
        go_ret
        exact ⟨by rw [ord_at (by decide) HE.out H1.out (by decide)]; rfl, below_drewN hb _⟩
      · have H1 := Lib.hid h1
        have hlt1 : ¬ c < c' := by have := cmpN_gt h1; omega
        have hlt2 : c' < c := cmpN_gt h1
        clear h1
        go_wp2_with fail
        go_quiet (fail)
        replace hx := hx.drewN nq
        replace hy := hy.drewN nq
        replace hb := below_drewN hb nq
        clear c0 c1 c2 c3 d0 d1 d2 d3
        generalize wr.drewN nq = w2 at *
        obtain ⟨⟨c0, c1, c2, c3⟩, -⟩ := hx.all
        obtain ⟨⟨d0, d1, d2, d3⟩, -⟩ := hy.all
        go_wp2_with fail
        go_quiet (fail)
        go_wp2
        go_ret
        exact ⟨by rw [ord_at (by decide) HE.out H1.out (by decide)]; rfl, below_drewN hb _⟩
    · rcases cmpN_cases d d' with h1 | h1 | h1
      · have H1 := Lib.hid h1
        have hlt1 : ¬ d < d' := by have := cmpN_zero.1 h1; omega
        have hlt2 : ¬ d' < d := by have := cmpN_zero.1 h1; omega
        clear h1
        go_wp2_with fail
        go_quiet (fail)
        replace hx := hx.drewN nq
        replace hy := hy.drewN nq
        replace hb := below_drewN hb nq
        clear c0 c1 c2 c3 d0 d1 d2 d3
        generalize wr.drewN nq = w2 at *
        obtain ⟨⟨c0, c1, c2, c3⟩, -⟩ := hx.all
        obtain ⟨⟨d0, d1, d2, d3⟩, -⟩ := hy.all
        go_wp2_with fail
        go_quiet (fail)
        go_wp2
        refine ⟨⟨4, by decide, rfl, ?_, hx.drewN _, hy.drewN _, below_drewN hb _⟩, by simp [intOf]⟩
        exact get_step HE.out (cmpN_zero.1 H1.out)
      · have H1 := Lib.hid h1
        have hlt1 : d < d' := cmpN_lt h1
        clear h1
        go_wp2_with fail
        go_quiet (fail)
        go_wp2
        go_ret
        exact ⟨by rw [ord_at (by decide) HE.out H1.out (by decide)]; rfl, below_drewN hb _⟩
      · have H1 := Lib.hid h1
        have hlt1 : ¬ d < d' := by have := cmpN_gt h1; omega
        have hlt2 : d' < d := cmpN_gt h1
        clear h1
        go_wp2_with fail
        go_quiet (fail)
        replace hx := hx.drewN nq
        replace hy := hy.drewN nq
        replace hb := below_drewN hb nq
        clear c0 c1 c2 c3 d0 d1 d2 d3
        generalize wr.drewN nq = w2 at *
        obtain ⟨⟨c0, c1, c2, c3⟩, -⟩ := hx.all
        obtain ⟨⟨d0, d1, d2, d3⟩, -⟩ := hy.all
        go_wp2_with fail
        go_quiet (fail)
        go_wp2
        go_ret
        exact ⟨by rw [ord_at (by decide) HE.out H1.out (by decide)]; rfl, below_drewN hb _⟩
    · go_wp2
      go_ret
      exact ⟨by rw [ord_all HE.out]; rfl, hb⟩
end Go.Proofs.Ythkkeamjigmfhaa
