/- rex.May: nodes that are counted down through a pointer. -/
import Derived.Test.YtdkdgbiagjflgaaDoorRexJ
import Derived.Test.YtdkdgbiagjflgaaDoorRexMay
namespace Go.Proofs.YtdkdgbiagjflgaaDoor
open Go.RowKit
/-- Below B all is as it was, but for one block. -/
structure But (g B : Nat) (w w' : World) : Prop where
  os : w'.os = w.os
  tape : w'.tape = w.tape
  output : w'.output = w.output
  size : w.heap.size ≤ w'.heap.size
  block : ∀ k, k < B → k ≠ g → w'.heap[k]? = w.heap[k]?
theorem But.refl (g B : Nat) (w : World) : But g B w w := ⟨rfl, rfl, rfl, Nat.le_refl _, fun _ _ _ => rfl⟩
theorem But.trans {g B : Nat} {a b c : World} (h : But g B a b) (k : But g B b c) : But g B a c :=
  ⟨k.os.trans h.os, k.tape.trans h.tape, k.output.trans h.output, Nat.le_trans h.size k.size, fun i hi hg => (k.block i hi hg).trans (h.block i hi hg)⟩
theorem But.mono {g B B' : Nat} {w w' : World} (h : But g B w w') (hB : B' ≤ B) : But g B' w w' := ⟨h.os, h.tape, h.output, h.size, fun k hk hg => h.block k (Nat.lt_of_lt_of_le hk hB) hg⟩
theorem But.of {g B : Nat} {w w' : World} (h : Below B w w') : But g B w w' := ⟨h.os, h.tape, h.output, h.size, fun k hk _ => h.block k hk⟩
theorem But.below {g B : Nat} {w w' : World} (h : But g B w w') (hB : B ≤ g) : Below B w w' := ⟨h.os, h.tape, h.output, h.size, fun k hk => h.block k hk (by omega)⟩
theorem But.set {g B : Nat} {w w' : World} (h : But g B w w') (o : Nat) (v : Value) : But g B w (w'.setCell ⟨g, o, none⟩ v) :=
  h.trans ⟨rfl, rfl, rfl, by simp [World.setCell], fun k _ hg => Below.heap_setCell _ _ _ _ hg⟩
theorem But.kept {g : Nat} {w w' : World} {ok : Nat → Prop} (h : But g w.heap.size w w') (hok : ∀ b, ok b → b ≠ g) : Kept ok ok w w' := ⟨h.size, fun b h1 h2 => ⟨h2, h.block b h1 (hok b h2)⟩⟩
/-- The counter's block. -/
def Left (w : World) (g : Nat) (z : Int) : Prop := w.heap[g]? = some (.cells #[.int .i64 z] 3)
theorem Left.cells {w : World} {g : Nat} {z : Int} (h : Left w g z) : w.cell? ⟨g, 0, none⟩ = some (.int .i64 z) ∧ w.frozen? ⟨g, 0, none⟩ = false := by
  unfold Left at h
  exact ⟨by rw [Lib.cell_of_heap h]; rfl, Lib.frozen_of_heap h 0⟩
theorem Left.lt {w : World} {g : Nat} {z : Int} (h : Left w g z) : g < w.heap.size := (Array.getElem?_eq_some_iff.1 h).1
theorem Left.set {w : World} {g : Nat} {z : Int} (h : Left w g z) (y : Int) : Left (w.setCell ⟨g, 0, none⟩ (.int .i64 y)) g y := by
  unfold Left at h ⊢
  simp [World.setCell, Array.getElem?_modify, h]
def MayPost (q : Bool) (n m g : Nat) (w : World) (e : Ending) (w' : World) : Prop := e = .returned (.bool q) ∧ (∃ z : Int, Left w' g z ∧ (q = true → z = (n : Int) - m)) ∧ But g w.heap.size w w'
def MayAt (ok : Nat → Prop) (g N : Nat) : Prop := ∀ (r : Rx), r.size ≤ N → ∀ (n : Nat) (v : Value) (w : World), n ≤ 2000 → Left w g n → ReAt ok w v r →
    Calls Tryd.prog 49 #[v, .pointer (some ⟨g, 0, none⟩)] w (MayPost (mayN r n) n r.size g w)
def PtrAt (w : World) (gb g : Nat) : Prop := w.heap[gb]? = some (.cells #[.pointer (some ⟨g, 0, none⟩)] 74)
theorem PtrAt.cell {w : World} {gb g : Nat} (h : PtrAt w gb g) : w.cell? ⟨gb, 0, none⟩ = some (.pointer (some ⟨g, 0, none⟩)) := by
  unfold PtrAt at h
  rw [Lib.cell_of_heap h]; rfl
theorem PtrAt.lt {w : World} {gb g : Nat} (h : PtrAt w gb g) : gb < w.heap.size := (Array.getElem?_eq_some_iff.1 h).1
set_option maxHeartbeats 1000000 in
theorem closure_of {ok : Nat → Prop} {g N : Nat} (ih : MayAt ok g N) (r : Rx) (hr : r.size ≤ N) (n gb : Nat) (v : Value) (w : World) (hn : n ≤ 2000) (hL : Left w g n) (hP : PtrAt w gb g) (h : ReAt ok w v r) :
    Calls Tryd.prog 58 #[v, .pointer (some ⟨gb, 0, none⟩)] w (fun e w' => e = .returned (.bool (!mayN r n)) ∧ (∃ z : Int, Left w' g z ∧ (mayN r n = true → z = (n : Int) - r.size)) ∧ But g w.heap.size w w') := by
  have K := Lib.hid fun W (hb : Below w.heap.size w W) => ih r hr n v W hn ((hb.block _ hL.lt).trans hL) (h.below hb)
  obtain ⟨x0, x1, x2, x3, x4, bl, n', cp, rfl⟩ := cells_re h
  have c := hP.cell
  have hlt := hP.lt
  clear ih h hL hP
  generalize mayN r n = q at *
  go_enter Tryd.func58, Tryd.ntmps58
  go_wp2_with fail
  refine (K.out _ ((Below.refl _ w).alloc (Nat.le_refl _) _)).mono ?_
  rintro e w1 ⟨rfl, hz, hb⟩
  have HZ := Lib.hid hz
  have HB : But g w.heap.size w w1 := (But.of ((Below.refl _ w).alloc (Nat.le_refl _) _)).trans (hb.mono (by simp))
  clear hz hb
  go_wp2
  go_ret
  exact ⟨rfl, HZ.out, HB⟩
end Go.Proofs.YtdkdgbiagjflgaaDoor
