/- set.with, set.Has, and the document's Has and With. -/
import Derived.Test.YtdkdgbiagjflgaaDoorBase
import Derived.Test.YtdkdgbiagjflgaaDoorSetM
import Derived.Laws.ShiftsVarLaws
import Derived.Laws.BitsAllLaws
import Derived.Laws.Bits64
namespace Go.Proofs.YtdkdgbiagjflgaaDoor
open Go.RowKit
def Ws.v (s : Ws) : Value := .agg #[.int .u64 s.a, .int .u64 s.b, .int .u64 s.c, .int .u64 s.d]
theorem or_bit (x n : Nat) (hx : x < 18446744073709551616) : bits BinOp.or IntKind.u64 (x : Int) (IntKind.u64.wrap (2 ^ (n % 64))) = ((x ||| 2 ^ (n % 64) : Nat) : Int) := by
  have hp := pow_lt64 n
  have e : ((2 : Int) ^ (n % 64)) = ((2 ^ (n % 64) : Nat) : Int) := by simp
  rw [e, IntKind.wrap_u64]
  generalize 2 ^ (n % 64) = y at *
  rw [Int.emod_eq_of_lt (by omega) (by omega), u64_or_nat x y hx hp]
set_option maxHeartbeats 1000000 in
theorem with_any (s : Ws) (n : Nat) (w : World) (hs : s.Ok) (hn : n < 256) :
    Calls Tryd.prog 38 #[s.v, .int .u8 n] w fun e w' => e = .returned (s.ins n).v ∧ Below w.heap.size w w' := by
  obtain ⟨a, b, c, d⟩ := s
  obtain ⟨h0, h1, h2, h3⟩ := hs
  simp only at h0 h1 h2 h3
  have hq : n / 64 = 0 ∨ n / 64 = 1 ∨ n / 64 = 2 ∨ n / 64 = 3 := by omega
  have e0 := Lib.hid (or_bit a n h0)
  have e1 := Lib.hid (or_bit b n h1)
  have e2 := Lib.hid (or_bit c n h2)
  have e3 := Lib.hid (or_bit d n h3)
  unfold Ws.v Ws.ins
  rcases hq with hq | hq | hq | hq
  all_goals
    have k1 : (n : Int) / 64 = ((n / 64 : Nat) : Int) := by omega
    rw [hq] at k1
    rw [hq]
    simp [Ws.put, Ws.get] at k1 ⊢
    go_enter Tryd.func38, Tryd.ntmps38
    go_wp2
    refine bodyPost_ret ?_ rfl ⟨rfl, ?_⟩
    · simp [results, Tryd.results38, go_sem, e0.out, e1.out, e2.out, e3.out]
    · exact ((Below.refl _ _).alloc (Nat.le_refl _) _).alloc (by simp) _
theorem and_one (x k : Nat) (hx : x < 18446744073709551616) : (bits BinOp.and IntKind.u64 ((x : Int) / 2 ^ k) 1 == 1) = x.testBit k := by
  have e : ((x : Int) / 2 ^ k) = ((x / 2 ^ k : Nat) : Int) := by simp
  have hl : x / 2 ^ k < 18446744073709551616 := Nat.lt_of_le_of_lt (Nat.div_le_self _ _) hx
  have e1 : (1 : Int) = ((1 : Nat) : Int) := rfl
  rw [e, e1, u64_and_nat _ 1 hl (by decide), nat_mask1, Nat.testBit_eq_decide_div_mod_eq, Bool.eq_iff_iff]
  simp
  omega
theorem half_step (x k : Nat) : ((x / 2 ^ k : Nat) : Int) / 2 = ((x / 2 ^ (k + 1) : Nat) : Int) := by
  rw [Nat.pow_succ, ← Nat.div_div_eq_div_mul]; rfl
theorem half_end (x k : Nat) : (((x / 2 ^ k : Nat) : Int) % 2 == 1) = x.testBit k := by
  rw [Nat.testBit_eq_decide_div_mod_eq]
  generalize x / 2 ^ k = y
  have e : ((y : Int) % 2) = ((y % 2 : Nat) : Int) := by omega
  rw [e]
  have h2 : y % 2 = 0 ∨ y % 2 = 1 := by omega
  rcases h2 with h2 | h2 <;> rw [h2] <;> rfl
def halfInv (x n : Nat) (o i : Value) : Prop := ∃ k y : Nat, k ≤ n % 64 ∧ y = x / 2 ^ k ∧ i = .int .i64 k ∧ o = .int .u64 y
set_option maxHeartbeats 1000000 in
theorem refHas_any (s : Ws) (n : Nat) (w : World) (hs : s.Ok) (hn : n < 256) :
    Calls Tryd.prog 46 #[s.v, .int .i64 n] w fun e w' => e = .returned (.bool (s.has n)) ∧ Below w.heap.size w w' := by
  obtain ⟨a, b, c, d⟩ := s
  obtain ⟨h0, h1, h2, h3⟩ := hs
  simp only at h0 h1 h2 h3
  have hq : n / 64 = 0 ∨ n / 64 = 1 ∨ n / 64 = 2 ∨ n / 64 = 3 := by omega
  unfold Ws.v Ws.has
  obtain ⟨x, hx⟩ : ∃ x, Ws.get ⟨a, b, c, d⟩ (n / 64) = x := ⟨_, rfl⟩
  rw [hx]
  rcases hq with hq | hq | hq | hq
  all_goals
    have k1 : (n : Int) / 64 = ((n / 64 : Nat) : Int) := by omega
    rw [hq] at k1 hx
    simp [Ws.get] at k1 hx ⊢
    replace hx := hx.symm
    subst hx
    clear hq
    go_enter Tryd.func46, Tryd.ntmps46
    go_wp2
    go_loop [5, 6] (fun o i => halfInv x n o i) (fun _ i => n % 64 - (intOf i).toNat)
    case atStart => exact ⟨0, _, Nat.zero_le _, rfl, rfl, by simp⟩
    case round =>
      obtain ⟨k, y, hk, hy, rfl, rfl⟩ := hrel
      have hlt64 : y < 18446744073709551616 := by rw [hy]; exact Nat.lt_of_le_of_lt (Nat.div_le_self _ _) ‹x < _›
      have HY := Lib.hid hy
      clear hy
      by_cases hlt : k < n % 64
      · go_wp2
        refine ⟨⟨k + 1, y / 2, by omega, ?_, by go_num, ?_⟩, by simp [intOf]; omega⟩
        · rw [HY.out, Nat.pow_succ, ← Nat.div_div_eq_div_mul]
        · rfl
      · go_wp2
        obtain rfl : k = n % 64 := by omega
        go_ret
        refine ⟨?_, (Below.refl _ _).alloc (Nat.le_refl _) _⟩
        show Ending.returned (.bool ((y : Int) % 2 == 1)) = _
        rw [HY.out, half_end]
/-- A block that holds a set. -/
def Box (w : World) (g : Nat) (s : Ws) : Prop := w.heap[g]? = some (.cells #[.int .u64 s.a, .int .u64 s.b, .int .u64 s.c, .int .u64 s.d] 28 (0, 0))
theorem Box.lt {w : World} {g : Nat} {s : Ws} (h : Box w g s) : g < w.heap.size := (Array.getElem?_eq_some_iff.1 h).1
theorem Box.cells {w : World} {g : Nat} {s : Ws} (h : Box w g s) : w.cell? ⟨g, 0, none⟩ = some (.int .u64 s.a) ∧ w.cell? ⟨g, 1, none⟩ = some (.int .u64 s.b) ∧ w.cell? ⟨g, 2, none⟩ = some (.int .u64 s.c) ∧ w.cell? ⟨g, 3, none⟩ = some (.int .u64 s.d) := by
  unfold Box at h
  refine ⟨?_, ?_, ?_, ?_⟩ <;> (rw [Lib.cell_of_heap h]; rfl)
theorem Box.frozen {w : World} {g : Nat} {s : Ws} (h : Box w g s) (i : Nat) : w.frozen? ⟨g, i, none⟩ = false := Lib.frozen_of_heap h i
theorem Box.below {w w' : World} {g B : Nat} {s : Ws} (h : Box w g s) (hb : Below B w w') (hg : g < B) : Box w' g s := (hb.block g hg).trans h
theorem Box.new (w : World) (s : Ws) : Box (w.alloc (.cells #[.int .u64 s.a, .int .u64 s.b, .int .u64 s.c, .int .u64 s.d] 28)) w.heap.size s := by
  show (w.heap.push _)[w.heap.size]? = _
  simp
theorem Box.new4 (w : World) (a b c d : Nat) : Box (w.alloc (.cells #[.int .u64 a, .int .u64 b, .int .u64 c, .int .u64 d] 28)) w.heap.size ⟨a, b, c, d⟩ := Box.new w ⟨a, b, c, d⟩
theorem Box.zero (w : World) : Box (w.alloc (.cells #[.int .u64 0, .int .u64 0, .int .u64 0, .int .u64 0] 28)) w.heap.size Ws.nil := Box.new w Ws.nil
theorem Box.alloc {w : World} {g : Nat} {s : Ws} (h : Box w g s) (o : Obj) : Box (w.alloc o) g s := by
  have := h.lt
  unfold Box at h ⊢
  rw [← h]
  exact Below.heap_alloc w o g this
theorem Box.drewN {w : World} {g : Nat} {s : Ws} (h : Box w g s) (n : Nat) : Box (w.drewN n) g s := h
theorem Box.far {w : World} {g : Nat} {s : Ws} (h : Box w g s) {p : Addr} (hp : g ≠ p.block) (v : Value) : Box (w.setCell p v) g s := by
  unfold Box at h ⊢
  rw [← h]
  simp [World.setCell, Array.getElem?_modify]
  intro e
  exact absurd e.symm hp
theorem Box.put {w : World} {g : Nat} {s : Ws} (h : Box w g s) (t : Ws) : Box ((((w.setCell ⟨g, 0, none⟩ (.int .u64 t.a)).setCell ⟨g, 1, none⟩ (.int .u64 t.b)).setCell ⟨g, 2, none⟩ (.int .u64 t.c)).setCell ⟨g, 3, none⟩ (.int .u64 t.d)) g t := by
  unfold Box at h ⊢
  simp [World.setCell, Array.getElem?_modify, h]
theorem Box.put4 {w : World} {g : Nat} {s : Ws} (h : Box w g s) (a b c d : Nat) : Box ((((w.setCell ⟨g, 0, none⟩ (.int .u64 a)).setCell ⟨g, 1, none⟩ (.int .u64 b)).setCell ⟨g, 2, none⟩ (.int .u64 c)).setCell ⟨g, 3, none⟩ (.int .u64 d)) g ⟨a, b, c, d⟩ := h.put ⟨a, b, c, d⟩
/-- All that a walk reads of a block that holds a set. -/
theorem Box.all {w : World} {g : Nat} {s : Ws} (h : Box w g s) : (w.cell? ⟨g, 0, none⟩ = some (.int .u64 s.a) ∧ w.cell? ⟨g, 1, none⟩ = some (.int .u64 s.b) ∧ w.cell? ⟨g, 2, none⟩ = some (.int .u64 s.c) ∧ w.cell? ⟨g, 3, none⟩ = some (.int .u64 s.d)) ∧ w.frozen? ⟨g, 0, none⟩ = false ∧ w.frozen? ⟨g, 1, none⟩ = false ∧ w.frozen? ⟨g, 2, none⟩ = false ∧ w.frozen? ⟨g, 3, none⟩ = false :=
  ⟨h.cells, h.frozen 0, h.frozen 1, h.frozen 2, h.frozen 3⟩
theorem below_put {w w' : World} {B g : Nat} (h : Below B w w') (hg : B ≤ g) (x0 x1 x2 x3 : Value) : Below B w ((((w'.setCell ⟨g, 0, none⟩ x0).setCell ⟨g, 1, none⟩ x1).setCell ⟨g, 2, none⟩ x2).setCell ⟨g, 3, none⟩ x3) :=
  (((h.setCell (p := ⟨g, 0, none⟩) hg _).setCell (p := ⟨g, 1, none⟩) hg _).setCell (p := ⟨g, 2, none⟩) hg _).setCell (p := ⟨g, 3, none⟩) hg _
/-- A function whose result lies in a block that holds a set. -/
theorem ret_box {fn : Func} {R : Ending → World → Prop} {a : Act} {W : World} {k g : Nat} {s : Ws} (hB : Box W g s) (hres : fn.results = #[.cell k 28]) (hslot : a.tmps.getD k undef = .pointer (some ⟨g, 0, none⟩)) (hd : a.defers = []) (hR : R (.returned s.v) W) : bodyPost Tryd.prog fn R .ret a W := by
  obtain ⟨c0, c1, c2, c3⟩ := hB.cells
  refine bodyPost_ret (v := s.v) ?_ hd hR
  have hslot' : a.tmps[k]?.getD undef = .pointer (some ⟨g, 0, none⟩) := by simpa using hslot
  simp [results, hres, hslot', go_sem, c0, c1, c2, c3, Ws.v]
end Go.Proofs.YtdkdgbiagjflgaaDoor
