/- The document's With; set.Of, set.Range and the document's. -/
import Derived.Test.YtfbhmljajoaniaaSetA
namespace Go.Proofs.Ytfbhmljajoaniaa
open Go.RowKit
def dblInv (n : Nat) (o i : Value) : Prop := ∃ k y : Nat, k ≤ n % 64 ∧ y = 2 ^ k ∧ i = .int .i64 k ∧ o = .int .u64 y
theorem add_bit64 {x n : Nat} (hx : x < 18446744073709551616) (h : x.testBit (n % 64) = false) : x + 2 ^ (n % 64) < 18446744073709551616 := by
  rw [add_bit h]; exact or_lt hx (pow_lt64 n)
set_option maxHeartbeats 2000000 in
theorem refWith_not (s : Ws) (n : Nat) (w : World) (hs : s.Ok) (hn : n < 256) (hh : s.has n = false) :
    Calls Try.prog 42 #[s.v, .int .i64 n] w fun e w' => e = .returned (s.ins n).v ∧ Below w.heap.size w w' := by
  have HH := Lib.hid hh
  unfold Ws.has at hh
  unfold Ws.ins
  rw [← add_bit hh]
  have hlt := Lib.hid (add_bit64 (Ws.get_lt hs _) hh)
  clear hh
  obtain ⟨a, b, c, d⟩ := s
  obtain ⟨x, hx⟩ : ∃ x, Ws.get ⟨a, b, c, d⟩ (n / 64) = x := ⟨_, rfl⟩
  rw [hx] at hlt ⊢
  have hq : n / 64 = 0 ∨ n / 64 = 1 ∨ n / 64 = 2 ∨ n / 64 = 3 := by omega
  rcases hq with hq | hq | hq | hq
  all_goals
    have k1 : (n : Int) / 64 = ((n / 64 : Nat) : Int) := by omega
    rw [hq] at k1 hx
    rw [hq]
    simp [Ws.get, Ws.put] at k1 hx ⊢
    replace hx := hx.symm
    subst hx
    clear hq
    unfold Ws.v
    go_enter Try.func42, Try.ntmps42
    go_wp2_with fail
    refine (refHas_any _ n _ hs hn).mono ?_
    rw [HH.out]
    rintro e w1 ⟨rfl, hb1⟩
    have hx0 := ((Box.new4 w _ _ _ _).alloc _).below hb1 (by simp; omega)
    have hy0 : Box w1 (w.heap.size + 1) Ws.nil := by
      have := (Box.zero (w.alloc _)).below hb1 (by simp)
      simpa using this
    have hbw : Below w.heap.size w w1 := (((Below.refl _ w).alloc (Nat.le_refl _) _).alloc (by simp) _).trans (hb1.mono (by simp; omega))
    have hx' := hx0.all
    have hy := hy0.all
    simp only [Ws.nil] at hy
    simp at hy
    obtain ⟨⟨c0, c1, c2, c3⟩, f0, f1, f2, f3⟩ := hx'
    obtain ⟨⟨d0, d1, d2, d3⟩, g0, g1, g2, g3⟩ := hy
    clear hb1
    go_wp2
    go_loop [5, 6] (fun o i => dblInv n o i) (fun _ i => n % 64 - (intOf i).toNat)
    case atStart => exact ⟨0, 1, Nat.zero_le _, rfl, rfl, rfl⟩
    case round =>
      obtain ⟨k, y, hk, hy, rfl, rfl⟩ := hrel
      have hlt64 : 2 * y < 18446744073709551616 ∨ k = n % 64 := by
        by_cases e : k = n % 64
        · exact .inr e
        · have := Nat.pow_lt_pow_right (a := 2) (by decide) (show k + 1 < 64 by omega)
          rw [Nat.pow_succ] at this
          left; rw [hy]; omega
      have HY := Lib.hid hy
      clear hy
      by_cases hlt' : k < n % 64
      · replace hlt64 : 2 * y < 18446744073709551616 := by omega
        go_wp2
        refine ⟨⟨k + 1, 2 * y, by omega, ?_, by go_num, ?_⟩, by simp [intOf]; omega⟩
        · rw [HY.out, Nat.pow_succ]; omega
        · simp
      · clear hlt64
        obtain rfl : k = n % 64 := by omega
        have HL : x + y < 18446744073709551616 := by rw [HY.out]; exact hlt.out
        go_wp2
        have e : (x : Int) + (y : Int) = ((x + 2 ^ (n % 64) : Nat) : Int) := by rw [← HY.out]; rfl
        rw [e]
        refine ret_box (g := w.heap.size + 1) (Box.put4 (w := w1.setCell _ _) (s := Ws.nil) (hy0.far (by simp) _) _ _ _ _) Try.results42 rfl rfl ⟨rfl, below_put (hbw.setCell (by simp) _) (by simp) _ _ _ _⟩
theorem refWith_any (s : Ws) (n : Nat) (w : World) (hs : s.Ok) (hn : n < 256) :
    Calls Try.prog 42 #[s.v, .int .i64 n] w fun e w' => e = .returned (s.ins n).v ∧ Below w.heap.size w w' := by
  by_cases h : s.has n = true
  · exact refWith_has s n w hs hn h
  · exact refWith_not s n w hs hn (by simpa using h)
end Go.Proofs.Ytfbhmljajoaniaa
