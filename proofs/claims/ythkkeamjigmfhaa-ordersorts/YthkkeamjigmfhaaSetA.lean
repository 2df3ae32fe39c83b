/- set.with, set.Has, and the document's Has and With. -/
import Derived.Test.YthkkeamjigmfhaaBase
import Derived.Test.YthkkeamjigmfhaaSetM
import Derived.Laws.ShiftsVarLaws
import Derived.Laws.BitsAllLaws
import Derived.Laws.Bits64
namespace Go.Proofs.Ythkkeamjigmfhaa
open Go.RowKit
def Ws.v (s : Ws) : Value := .agg #[.int .u64 s.a, .int .u64 s.b, .int .u64 s.c, .int .u64 s.d]
theorem or_bit (x n : Nat) (hx : x < 18446744073709551616) : bits BinOp.or IntKind.u64 (x : Int) (IntKind.u64.wrap (2 ^ (n % 64))) = ((x ||| 2 ^ (n % 64) : Nat) : Int) := by
  have hp := pow_lt64 n
  have e : ((2 : Int) ^ (n % 64)) = ((2 ^ (n % 64) : Nat) : Int) := by simp
  rw [e, IntKind.wrap_u64]
  generalize 2 ^ (n % 64) = y at *
  rw [Int.emod_eq_of_lt (by omega) (by omega), u64_or_nat x y hx hp]
theorem and_one (x k : Nat) (hx : x < 18446744073709551616) : (bits BinOp.and IntKind.u64 ((x : Int) / 2 ^ k) 1 == 1) = x.testBit k := by
  have e : ((x : Int) / 2 ^ k) = ((x / 2 ^ k : Nat) : Int) := by simp
  have hl : x / 2 ^ k < 18446744073709551616 := Nat.lt_of_le_of_lt (Nat.div_le_self _ _) hx
  have e1 : (1 : Int) = ((1 : Nat) : Int) := rfl
  rw [e, e1, u64_and_nat _ 1 hl (by decide), nat_mask1, Nat.testBit_eq_decide_div_mod_eq, Bool.eq_iff_iff]
  simp
  omega
theorem half_step (x k : Nat) : ((x / 2 ^ k : Nat) : Int) / 2 = ((x / 2 ^ (k + 1) : Nat) : Int) := by
  rw [Nat.pow_succ, ← Nat.div_div_eq_div_mul]; rfl
theorem half_end (x k : Nat) : (((x / 2 ^ k : Nat) : Int) % 2 == 1) = x.testBit k := by
  rw [Nat.testBit_eq_decide_div_mod_eq]
  generalize x / 2 ^ k = y
  have e : ((y : Int) % 2) = ((y % 2 : Nat) : Int) := by omega
  rw [e]
  have h2 : y % 2 = 0 ∨ y % 2 = 1 := by omega
  rcases h2 with h2 | h2 <;> rw [h2] <;> rfl
def halfInv (x n : Nat) (o i : Value) : Prop := ∃ k y : Nat, k ≤ n % 64 ∧ y = x / 2 ^ k ∧ i = .int .i64 k ∧ o = .int .u64 y
/-- A block that holds a set. -/
def Box (w : World) (g : Nat) (s : Ws) : Prop := w.heap[g]? = some (.cells #[.int .u64 s.a, .int .u64 s.b, .int .u64 s.c, .int .u64 s.d] 24 (0, 0))
theorem Box.lt {w : World} {g : Nat} {s : Ws} (h : Box w g s) : g < w.heap.size := (Array.getElem?_eq_some_iff.1 h).1
theorem Box.cells {w : World} {g : Nat} {s : Ws} (h : Box w g s) : w.cell? ⟨g, 0, none⟩ = some (.int .u64 s.a) ∧ w.cell? ⟨g, 1, none⟩ = some (.int .u64 s.b) ∧ w.cell? ⟨g, 2, none⟩ = some (.int .u64 s.c) ∧ w.cell? ⟨g, 3, none⟩ = some (.int .u64 s.d) := by
  unfold Box at h
  refine ⟨?_, ?_, ?_, ?_⟩ <;> (rw [Lib.cell_of_heap h]; rfl)
theorem Box.frozen {w : World} {g : Nat} {s : Ws} (h : Box w g s) (i : Nat) : w.frozen? ⟨g, i, none⟩ = false := Lib.frozen_of_heap h i
theorem Box.below {w w' : World} {g B : Nat} {s : Ws} (h : Box w g s) (hb : Below B w w') (hg : g < B) : Box w' g s := (hb.block g hg).trans h
theorem Box.new (w : World) (s : Ws) : Box (w.alloc (.cells #[.int .u64 s.a, .int .u64 s.b, .int .u64 s.c, .int .u64 s.d] 24)) w.heap.size s := by
  show (w.heap.push _)[w.heap.size]? = _
  simp
theorem Box.new4 (w : World) (a b c d : Nat) : Box (w.alloc (.cells #[.int .u64 a, .int .u64 b, .int .u64 c, .int .u64 d] 24)) w.heap.size ⟨a, b, c, d⟩ := Box.new w ⟨a, b, c, d⟩
theorem Box.zero (w : World) : Box (w.alloc (.cells #[.int .u64 0, .int .u64 0, .int .u64 0, .int .u64 0] 24)) w.heap.size Ws.nil := Box.new w Ws.nil
theorem Box.alloc {w : World} {g : Nat} {s : Ws} (h : Box w g s) (o : Obj) : Box (w.alloc o) g s := by
  have := h.lt
  unfold Box at h ⊢
  rw [← h]
  exact Below.heap_alloc w o g this
theorem Box.drewN {w : World} {g : Nat} {s : Ws} (h : Box w g s) (n : Nat) : Box (w.drewN n) g s := h
theorem Box.far {w : World} {g : Nat} {s : Ws} (h : Box w g s) {p : Addr} (hp : g ≠ p.block) (v : Value) : Box (w.setCell p v) g s := by
  unfold Box at h ⊢
  rw [← h]
  simp [World.setCell, Array.getElem?_modify]
  intro e
  exact absurd e.symm hp
theorem Box.put {w : World} {g : Nat} {s : Ws} (h : Box w g s) (t : Ws) : Box ((((w.setCell ⟨g, 0, none⟩ (.int .u64 t.a)).setCell ⟨g, 1, none⟩ (.int .u64 t.b)).setCell ⟨g, 2, none⟩ (.int .u64 t.c)).setCell ⟨g, 3, none⟩ (.int .u64 t.d)) g t := by
  unfold Box at h ⊢
  simp [World.setCell, Array.getElem?_modify, h]
theorem Box.put4 {w : World} {g : Nat} {s : Ws} (h : Box w g s) (a b c d : Nat) : Box ((((w.setCell ⟨g, 0, none⟩ (.int .u64 a)).setCell ⟨g, 1, none⟩ (.int .u64 b)).setCell ⟨g, 2, none⟩ (.int .u64 c)).setCell ⟨g, 3, none⟩ (.int .u64 d)) g ⟨a, b, c, d⟩ := h.put ⟨a, b, c, d⟩
/-- All that a walk reads of a block that holds a set. -/
theorem Box.all {w : World} {g : Nat} {s : Ws} (h : Box w g s) : (w.cell? ⟨g, 0, none⟩ = some (.int .u64 s.a) ∧ w.cell? ⟨g, 1, none⟩ = some (.int .u64 s.b) ∧ w.cell? ⟨g, 2, none⟩ = some (.int .u64 s.c) ∧ w.cell? ⟨g, 3, none⟩ = some (.int .u64 s.d)) ∧ w.frozen? ⟨g, 0, none⟩ = false ∧ w.frozen? ⟨g, 1, none⟩ = false ∧ w.frozen? ⟨g, 2, none⟩ = false ∧ w.frozen? ⟨g, 3, none⟩ = false :=
  ⟨h.cells, h.frozen 0, h.frozen 1, h.frozen 2, h.frozen 3⟩
theorem below_put {w w' : World} {B g : Nat} (h : Below B w w') (hg : B ≤ g) (x0 x1 x2 x3 : Value) : Below B w ((((w'.setCell ⟨g, 0, none⟩ x0).setCell ⟨g, 1, none⟩ x1).setCell ⟨g, 2, none⟩ x2).setCell ⟨g, 3, none⟩ x3) :=
  (((h.setCell (p := ⟨g, 0, none⟩) hg _).setCell (p := ⟨g, 1, none⟩) hg _).setCell (p := ⟨g, 2, none⟩) hg _).setCell (p := ⟨g, 3, none⟩) hg _
/-- A function whose result lies in a block that holds a set. -/
theorem ret_box {fn : Func} {R : Ending → World → Prop} {a : Act} {W : World} {k g : Nat} {s : Ws} (hB : Box W g s) (hres : fn.results = #[.cell k 24]) (hslot : a.tmps.getD k undef = .pointer (some ⟨g, 0, none⟩)) (hd : a.defers = []) (hR : R (.returned s.v) W) : bodyPost Try.prog fn R .ret a W := by
  obtain ⟨c0, c1, c2, c3⟩ := hB.cells
  refine bodyPost_ret (v := s.v) ?_ hd hR
  have hslot' : a.tmps[k]?.getD undef = .pointer (some ⟨g, 0, none⟩) := by simpa using hslot
  simp [results, hres, hslot', go_sem, c0, c1, c2, c3, Ws.v]
end Go.Proofs.Ythkkeamjigmfhaa
