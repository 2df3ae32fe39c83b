/- Lemmas of mine, merged: QPSetA, QPRexM, QPRexA, QPSetQ, QPSetB, QPFrm, QPSetX, QPMemS. -/
import Derived.WalkKit
import Derived.WalkSpells
import Derived.WalkLawsBesides
import Derived.Lib.OthersKept
import Derived.Lib.Hide
import Derived.Laws.ShiftsVarLaws
import Derived.Laws.BitsAllLaws
import Derived.Laws.Bits64
import Derived.Test.YthgghaaddankoaaGreatDoorRows
import Derived.Test.YthgghaaddankoaaGreatDoorQPSetMAll
import Derived.IntWalk
import Derived.Laws.StructEq
import Derived.LoopN
import Derived.Defers
import Derived.Carry
import Derived.Laws.Pointers
import Derived.Laws.LoneSync
import Derived.Laws.NewBlocks
import Derived.RegionTactic
import Derived.RegionCalls
/- Lemmas of mine. -/
namespace Go.Proofs.YthgghaaddankoaaGreatDoor
open Go.RowKit
def Ws.v (s : Ws) : Value := .agg #[.int .u64 s.a, .int .u64 s.b, .int .u64 s.c, .int .u64 s.d]
theorem or_bit (x n : Nat) (hx : x < 18446744073709551616) : bits BinOp.or IntKind.u64 (x : Int) (IntKind.u64.wrap (2 ^ (n % 64))) = ((x ||| 2 ^ (n % 64) : Nat) : Int) := by
  have hp := pow_lt64 n; (have e : ((2 : Int) ^ (n % 64)) = ((2 ^ (n % 64) : Nat) : Int) := by simp); rw [e, IntKind.wrap_u64]; generalize 2 ^ (n % 64) = y at *; rw [Int.emod_eq_of_lt (by omega) (by omega), u64_or_nat x y hx hp]
set_option maxHeartbeats 1000000 in
theorem with_any (s : Ws) (n : Nat) (w : World) (hs : s.Ok) (hn : n < 256) :
    Calls Tryz.prog 107 #[s.v, .int .u8 n] w fun e w' => e = .returned (s.ins n).v ∧ Below w.heap.size w w' := by
  obtain ⟨a, b, c, d⟩ := s; obtain ⟨h0, h1, h2, h3⟩ := hs; simp only at h0 h1 h2 h3; (have hq : n / 64 = 0 ∨ n / 64 = 1 ∨ n / 64 = 2 ∨ n / 64 = 3 := by omega); have e0 := Lib.hid (or_bit a n h0); have e1 := Lib.hid (or_bit b n h1); have e2 := Lib.hid (or_bit c n h2); have e3 := Lib.hid (or_bit d n h3); unfold Ws.v Ws.ins
  rcases hq with hq | hq | hq | hq
  all_goals
    (have k1 : (n : Int) / 64 = ((n / 64 : Nat) : Int) := by omega); rw [hq] at k1; rw [hq]; simp [Ws.put, Ws.get] at k1 ⊢; go_enter Tryz.func107, Tryz.ntmps107; go_wp2; refine bodyPost_ret ?_ rfl ⟨rfl, ?_⟩
    · simp [results, Tryz.results107, go_sem, e0.out, e1.out, e2.out, e3.out]
    · exact ((Below.refl _ _).alloc (Nat.le_refl _) _).alloc (by simp) _
theorem half_end (x k : Nat) : (((x / 2 ^ k : Nat) : Int) % 2 == 1) = x.testBit k := by
  rw [Nat.testBit_eq_decide_div_mod_eq]; generalize x / 2 ^ k = y; (have e : ((y : Int) % 2) = ((y % 2 : Nat) : Int) := by omega); rw [e]; (have h2 : y % 2 = 0 ∨ y % 2 = 1 := by omega)
  rcases h2 with h2 | h2 <;> rw [h2] <;> rfl
def halfInv (x n : Nat) (o i : Value) : Prop := ∃ k y : Nat, k ≤ n % 64 ∧ y = x / 2 ^ k ∧ i = .int .i64 k ∧ o = .int .u64 y
set_option maxHeartbeats 1000000 in
theorem refHas_any (s : Ws) (n : Nat) (w : World) (hs : s.Ok) (hn : n < 256) :
    Calls Tryz.prog 101 #[s.v, .int .i64 n] w fun e w' => e = .returned (.bool (s.has n)) ∧ Below w.heap.size w w' := by
  obtain ⟨a, b, c, d⟩ := s; obtain ⟨h0, h1, h2, h3⟩ := hs; simp only at h0 h1 h2 h3; (have hq : n / 64 = 0 ∨ n / 64 = 1 ∨ n / 64 = 2 ∨ n / 64 = 3 := by omega); unfold Ws.v Ws.has; obtain ⟨x, hx⟩ : ∃ x, Ws.get ⟨a, b, c, d⟩ (n / 64) = x := ⟨_, rfl⟩; rw [hx]
  rcases hq with hq | hq | hq | hq
  all_goals
    (have k1 : (n : Int) / 64 = ((n / 64 : Nat) : Int) := by omega); rw [hq] at k1 hx; simp [Ws.get] at k1 hx ⊢; replace hx := hx.symm; subst hx; clear hq; go_enter Tryz.func101, Tryz.ntmps101; go_wp2
    go_loop [5, 6] (fun o i => halfInv x n o i) (fun _ i => n % 64 - (intOf i).toNat)
    case atStart => exact ⟨0, _, Nat.zero_le _, rfl, rfl, by simp⟩
    case round =>
      obtain ⟨k, y, hk, hy, rfl, rfl⟩ := hrel; (have hlt64 : y < 18446744073709551616 := by rw [hy]; exact Nat.lt_of_le_of_lt (Nat.div_le_self _ _) ‹x < _›); have HY := Lib.hid hy; clear hy
      by_cases hlt : k < n % 64
      · go_wp2; refine ⟨⟨k + 1, y / 2, by omega, ?_, by go_num, ?_⟩, by simp [intOf]; omega⟩
        · rw [HY.out, Nat.pow_succ, ← Nat.div_div_eq_div_mul]
        · rfl
      · go_wp2; (obtain rfl : k = n % 64 := by omega); go_ret; refine ⟨?_, (Below.refl _ _).alloc (Nat.le_refl _) _⟩; show Ending.returned (.bool ((y : Int) % 2 == 1)) = _; rw [HY.out, half_end]
def Box (w : World) (g : Nat) (s : Ws) : Prop := w.heap[g]? = some (.cells #[.int .u64 s.a, .int .u64 s.b, .int .u64 s.c, .int .u64 s.d] 37 (0, 0))
theorem Box.lt {w : World} {g : Nat} {s : Ws} (h : Box w g s) : g < w.heap.size := (Array.getElem?_eq_some_iff.1 h).1
theorem Box.cells {w : World} {g : Nat} {s : Ws} (h : Box w g s) : w.cell? ⟨g, 0, none⟩ = some (.int .u64 s.a) ∧ w.cell? ⟨g, 1, none⟩ = some (.int .u64 s.b) ∧ w.cell? ⟨g, 2, none⟩ = some (.int .u64 s.c) ∧ w.cell? ⟨g, 3, none⟩ = some (.int .u64 s.d) := by
  unfold Box at h
  refine ⟨?_, ?_, ?_, ?_⟩ <;> (rw [Lib.cell_of_heap h]; rfl)
theorem Box.frozen {w : World} {g : Nat} {s : Ws} (h : Box w g s) (i : Nat) : w.frozen? ⟨g, i, none⟩ = false := Lib.frozen_of_heap h i
theorem Box.below {w w' : World} {g B : Nat} {s : Ws} (h : Box w g s) (hb : Below B w w') (hg : g < B) : Box w' g s := (hb.block g hg).trans h
theorem Box.new (w : World) (s : Ws) : Box (w.alloc (.cells #[.int .u64 s.a, .int .u64 s.b, .int .u64 s.c, .int .u64 s.d] 37)) w.heap.size s := by
  show (w.heap.push _)[w.heap.size]? = _; simp
theorem Box.new4 (w : World) (a b c d : Nat) : Box (w.alloc (.cells #[.int .u64 a, .int .u64 b, .int .u64 c, .int .u64 d] 37)) w.heap.size ⟨a, b, c, d⟩ := Box.new w ⟨a, b, c, d⟩
theorem Box.zero (w : World) : Box (w.alloc (.cells #[.int .u64 0, .int .u64 0, .int .u64 0, .int .u64 0] 37)) w.heap.size Ws.nil := Box.new w Ws.nil
theorem Box.alloc {w : World} {g : Nat} {s : Ws} (h : Box w g s) (o : Obj) : Box (w.alloc o) g s := by
  have := h.lt; unfold Box at h ⊢; rw [← h]; exact Below.heap_alloc w o g this
theorem Box.drewN {w : World} {g : Nat} {s : Ws} (h : Box w g s) (n : Nat) : Box (w.drewN n) g s := h
theorem Box.far {w : World} {g : Nat} {s : Ws} (h : Box w g s) {p : Addr} (hp : g ≠ p.block) (v : Value) : Box (w.setCell p v) g s := by
  unfold Box at h ⊢; rw [← h]; simp [World.setCell, Array.getElem?_modify]; intro e; exact absurd e.symm hp
theorem Box.put {w : World} {g : Nat} {s : Ws} (h : Box w g s) (t : Ws) : Box ((((w.setCell ⟨g, 0, none⟩ (.int .u64 t.a)).setCell ⟨g, 1, none⟩ (.int .u64 t.b)).setCell ⟨g, 2, none⟩ (.int .u64 t.c)).setCell ⟨g, 3, none⟩ (.int .u64 t.d)) g t := by
  unfold Box at h ⊢; simp [World.setCell, Array.getElem?_modify, h]
theorem Box.put4 {w : World} {g : Nat} {s : Ws} (h : Box w g s) (a b c d : Nat) : Box ((((w.setCell ⟨g, 0, none⟩ (.int .u64 a)).setCell ⟨g, 1, none⟩ (.int .u64 b)).setCell ⟨g, 2, none⟩ (.int .u64 c)).setCell ⟨g, 3, none⟩ (.int .u64 d)) g ⟨a, b, c, d⟩ := h.put ⟨a, b, c, d⟩
theorem Box.all {w : World} {g : Nat} {s : Ws} (h : Box w g s) : (w.cell? ⟨g, 0, none⟩ = some (.int .u64 s.a) ∧ w.cell? ⟨g, 1, none⟩ = some (.int .u64 s.b) ∧ w.cell? ⟨g, 2, none⟩ = some (.int .u64 s.c) ∧ w.cell? ⟨g, 3, none⟩ = some (.int .u64 s.d)) ∧ w.frozen? ⟨g, 0, none⟩ = false ∧ w.frozen? ⟨g, 1, none⟩ = false ∧ w.frozen? ⟨g, 2, none⟩ = false ∧ w.frozen? ⟨g, 3, none⟩ = false :=
  ⟨h.cells, h.frozen 0, h.frozen 1, h.frozen 2, h.frozen 3⟩
theorem below_put {w w' : World} {B g : Nat} (h : Below B w w') (hg : B ≤ g) (x0 x1 x2 x3 : Value) : Below B w ((((w'.setCell ⟨g, 0, none⟩ x0).setCell ⟨g, 1, none⟩ x1).setCell ⟨g, 2, none⟩ x2).setCell ⟨g, 3, none⟩ x3) :=
  (((h.setCell (p := ⟨g, 0, none⟩) hg _).setCell (p := ⟨g, 1, none⟩) hg _).setCell (p := ⟨g, 2, none⟩) hg _).setCell (p := ⟨g, 3, none⟩) hg _
theorem ret_box {fn : Func} {R : Ending → World → Prop} {a : Act} {W : World} {k g : Nat} {s : Ws} (hB : Box W g s) (hres : fn.results = #[.cell k 37]) (hslot : a.tmps.getD k undef = .pointer (some ⟨g, 0, none⟩)) (hd : a.defers = []) (hR : R (.returned s.v) W) : bodyPost Tryz.prog fn R .ret a W := by
  obtain ⟨c0, c1, c2, c3⟩ := hB.cells; refine bodyPost_ret (v := s.v) ?_ hd hR; (have hslot' : a.tmps[k]?.getD undef = .pointer (some ⟨g, 0, none⟩) := by simpa using hslot); simp [results, hres, hslot', go_sem, c0, c1, c2, c3, Ws.v]
set_option maxHeartbeats 1000000 in
theorem refWith_has (s : Ws) (n : Nat) (w : World) (hs : s.Ok) (hn : n < 256) (hh : s.has n = true) :
    Calls Tryz.prog 102 #[s.v, .int .i64 n] w fun e w' => e = .returned (s.ins n).v ∧ Below w.heap.size w w' := by
  rw [Ws.ins_has hs hn hh]; have HH := Lib.hid hh; clear hh; obtain ⟨a, b, c, d⟩ := s; unfold Ws.v; go_enter Tryz.func102, Tryz.ntmps102; go_wp2_with fail; refine (refHas_any ⟨a, b, c, d⟩ n _ hs hn).mono ?_; rw [HH.out]; rintro e w1 ⟨rfl, hb1⟩; have hx := (((Box.new w ⟨a, b, c, d⟩).alloc _).below hb1 (by simp; omega)).all
  have hy0 : Box w1 (w.heap.size + 1) Ws.nil := by
    have := ((Box.zero (w.alloc (.cells #[.int .u64 a, .int .u64 b, .int .u64 c, .int .u64 d] 37))).below hb1 (by simp))
    simpa using this
  have hy := hy0.all; have hbw : Below w.heap.size w w1 := (((Below.refl _ w).alloc (Nat.le_refl _) _).alloc (by simp) _).trans (hb1.mono (by simp; omega)); simp only [Ws.nil] at hy; simp at hy; obtain ⟨⟨c0, c1, c2, c3⟩, f0, f1, f2, f3⟩ := hx; obtain ⟨⟨d0, d1, d2, d3⟩, g0, g1, g2, g3⟩ := hy; clear hb1; go_wp2; exact ret_box (hy0.put ⟨a, b, c, d⟩) Tryz.results102 rfl rfl ⟨rfl, below_put hbw (by simp) _ _ _ _⟩
open Go.RowKit
inductive Rx where
  | node (kind : Nat) (s : Ws) (kids : List Rx)
mutual
def Rx.size : Rx → Nat
  | .node _ _ ks => 1 + Rx.sizes ks
def Rx.sizes : List Rx → Nat
  | [] => 0
  | r :: rs => r.size + Rx.sizes rs
end
theorem Rx.size_pos (r : Rx) : 0 < r.size := by
  obtain ⟨k, s, ks⟩ := r; unfold Rx.size; omega
theorem sizes_append (a b : List Rx) : Rx.sizes (a ++ b) = Rx.sizes a + Rx.sizes b := by
  induction a with
  | nil => simp [Rx.sizes]
  | cons x t ih => simp [Rx.sizes, ih]; omega
theorem sizes_take (l : List Rx) (i : Nat) (h : i < l.length) : Rx.sizes (l.take (i + 1)) = Rx.sizes (l.take i) + l[i].size := by
  rw [List.take_succ_eq_append_getElem h, sizes_append]; simp [Rx.sizes]
theorem sizes_take_le (l : List Rx) (i : Nat) : Rx.sizes (l.take i) ≤ Rx.sizes l := by
  have := sizes_append (l.take i) (l.drop i); rw [List.take_append_drop] at this; omega
theorem size_kid {l : List Rx} {i : Nat} (h : i < l.length) : l[i].size ≤ Rx.sizes l := by
  have h1 := sizes_take l i h; have h2 := sizes_take_le l (i + 1); omega
mutual
def NodeAt (ok : Nat → Prop) (w : World) (b off : Nat) : Rx → Prop
  | .node k s ks => k < 256 ∧ s.Ok ∧ (w.cell? ⟨b, off, none⟩ = some (.int .u8 k) ∧ w.cell? ⟨b, off + 1, none⟩ = some (.int .u64 s.a) ∧ w.cell? ⟨b, off + 2, none⟩ = some (.int .u64 s.b) ∧ w.cell? ⟨b, off + 3, none⟩ = some (.int .u64 s.c) ∧ w.cell? ⟨b, off + 4, none⟩ = some (.int .u64 s.d)) ∧
      ∃ al cap, w.cell? ⟨b, off + 5, none⟩ = some (.slice al ks.length cap) ∧ ks.length ≤ cap ∧ ks.length < 2199023255552 ∧ (ks = [] ∨ ∃ b' off', al = some ⟨b', off', none⟩ ∧ b' < w.heap.size ∧ ok b' ∧ NodesAt ok w b' off' ks)
def NodesAt (ok : Nat → Prop) (w : World) (b off : Nat) : List Rx → Prop
  | [] => True
  | r :: rs => NodeAt ok w b off r ∧ NodesAt ok w b (off + 6) rs
end
def RowAt (ok : Nat → Prop) (w : World) (al : Option Addr) (ks : List Rx) : Prop := ks = [] ∨ ∃ b off, al = some ⟨b, off, none⟩ ∧ b < w.heap.size ∧ ok b ∧ NodesAt ok w b off ks
def ReAt (ok : Nat → Prop) (w : World) (v : Value) : Rx → Prop
  | .node k s ks => k < 256 ∧ s.Ok ∧ ∃ al cap, v = .agg #[.int .u8 k, .int .u64 s.a, .int .u64 s.b, .int .u64 s.c, .int .u64 s.d, .slice al ks.length cap] ∧ ks.length ≤ cap ∧ ks.length < 2199023255552 ∧ RowAt ok w al ks
theorem nodesAt_get {ok : Nat → Prop} {w : World} {b : Nat} : ∀ {ks : List Rx} {off : Nat}, NodesAt ok w b off ks → ∀ i (h : i < ks.length), NodeAt ok w b (off + i * 6) ks[i]
  | [], _, _, i, h => absurd h (Nat.not_lt_zero _)
  | r :: rs, off, hN, i, h => by
    unfold NodesAt at hN
    cases i with
    | zero => simpa using hN.1
    | succ i =>
      have := nodesAt_get hN.2 i (by simpa using h); rw [show off + (i + 1) * 6 = off + 6 + i * 6 from by omega]
      simpa using this
theorem nodesAt_of {ok : Nat → Prop} {w : World} {b : Nat} : ∀ {ks : List Rx} {off : Nat}, (∀ i (h : i < ks.length), NodeAt ok w b (off + i * 6) ks[i]) → NodesAt ok w b off ks
  | [], _, _ => by unfold NodesAt; trivial
  | r :: rs, off, h => by
    unfold NodesAt; have h0 := h 0 (by simp); simp only [Nat.zero_mul, Nat.add_zero, List.getElem_cons_zero] at h0; refine ⟨h0, nodesAt_of fun i hi => ?_⟩; have := h (i + 1) (by simpa using hi); rw [show off + (i + 1) * 6 = off + 6 + i * 6 from by omega] at this
    simpa using this
theorem NodeAt.read {ok : Nat → Prop} {w : World} {b off : Nat} {k : Nat} {s : Ws} {ks : List Rx} (h : NodeAt ok w b off (.node k s ks)) :
    ∃ al cap, (w.cell? ⟨b, off, none⟩ = some (.int .u8 k) ∧ w.cell? ⟨b, off + 1, none⟩ = some (.int .u64 s.a) ∧ w.cell? ⟨b, off + 2, none⟩ = some (.int .u64 s.b) ∧ w.cell? ⟨b, off + 3, none⟩ = some (.int .u64 s.c) ∧ w.cell? ⟨b, off + 4, none⟩ = some (.int .u64 s.d) ∧ w.cell? ⟨b, off + 5, none⟩ = some (.slice al ks.length cap)) ∧
      ReAt ok w (.agg #[.int .u8 k, .int .u64 s.a, .int .u64 s.b, .int .u64 s.c, .int .u64 s.d, .slice al ks.length cap]) (.node k s ks) := by
  unfold NodeAt at h; obtain ⟨hk, hs, ⟨c0, c1, c2, c3, c4⟩, al, cap, c5, h1, h2, h3⟩ := h; exact ⟨al, cap, ⟨c0, c1, c2, c3, c4, c5⟩, hk, hs, al, cap, rfl, h1, h2, h3⟩
def Kept (ok ok' : Nat → Prop) (w w' : World) : Prop := w.heap.size ≤ w'.heap.size ∧ ∀ b, b < w.heap.size → ok b → ok' b ∧ w'.heap[b]? = w.heap[b]?
mutual
theorem NodeAt.go {ok ok' : Nat → Prop} {w w' : World} (hk : Kept ok ok' w w') : ∀ (r : Rx) {b off : Nat}, w'.heap[b]? = w.heap[b]? → NodeAt ok w b off r → NodeAt ok' w' b off r
  | .node k s ks, b, off, hb, h => by
    unfold NodeAt at h ⊢; obtain ⟨h0, hs, ⟨c0, c1, c2, c3, c4⟩, al, cap, c5, h1, h2, h3⟩ := h; have e : ∀ o, w'.cell? ⟨b, o, none⟩ = w.cell? ⟨b, o, none⟩ := fun o => World.cell?_of_block (w := w) (a := ⟨b, o, none⟩) hb; refine ⟨h0, hs, ⟨by rw [e]; exact c0, by rw [e]; exact c1, by rw [e]; exact c2, by rw [e]; exact c3, by rw [e]; exact c4⟩, al, cap, by rw [e]; exact c5, h1, h2, ?_⟩
    rcases h3 with h3 | ⟨b', off', e1, e2, e3, e4⟩
    · exact .inl h3
    · have hh := hk.2 b' e2 e3; exact .inr ⟨b', off', e1, Nat.lt_of_lt_of_le e2 hk.1, hh.1, NodesAt.go hk ks hh.2 e4⟩
theorem NodesAt.go {ok ok' : Nat → Prop} {w w' : World} (hk : Kept ok ok' w w') : ∀ (ks : List Rx) {b off : Nat}, w'.heap[b]? = w.heap[b]? → NodesAt ok w b off ks → NodesAt ok' w' b off ks
  | [], _, _, _, _ => by unfold NodesAt; trivial
  | r :: rs, b, off, hb, h => by
    unfold NodesAt at h ⊢; exact ⟨NodeAt.go hk r hb h.1, NodesAt.go hk rs hb h.2⟩
end
theorem RowAt.go {ok ok' : Nat → Prop} {w w' : World} {al : Option Addr} {ks : List Rx} (h : RowAt ok w al ks) (hk : Kept ok ok' w w') : RowAt ok' w' al ks := by
  rcases h with h | ⟨b, off, e, hlt, ho, h⟩
  · exact .inl h
  · have hh := hk.2 b hlt ho; exact .inr ⟨b, off, e, Nat.lt_of_lt_of_le hlt hk.1, hh.1, NodesAt.go hk ks hh.2 h⟩
theorem ReAt.go {ok ok' : Nat → Prop} {w w' : World} {v : Value} {r : Rx} (h : ReAt ok w v r) (hk : Kept ok ok' w w') : ReAt ok' w' v r := by
  obtain ⟨k, s, ks⟩ := r; obtain ⟨h0, hs, al, cap, e, h1, h2, h3⟩ := h; exact ⟨h0, hs, al, cap, e, h1, h2, h3.go hk⟩
theorem keptB {w w' : World} (hb : Below w.heap.size w w') (ok : Nat → Prop) : Kept ok ok w w' := ⟨hb.size, fun b h1 h2 => ⟨h2, hb.block b h1⟩⟩
theorem NodeAt.below {ok : Nat → Prop} {w w' : World} (hb : Below w.heap.size w w') (r : Rx) {b off : Nat} (hlt : b < w.heap.size) (h : NodeAt ok w b off r) : NodeAt ok w' b off r := NodeAt.go (keptB hb ok) r (hb.block b hlt) h
theorem NodesAt.below {ok : Nat → Prop} {w w' : World} (hb : Below w.heap.size w w') (ks : List Rx) {b off : Nat} (hlt : b < w.heap.size) (h : NodesAt ok w b off ks) : NodesAt ok w' b off ks := NodesAt.go (keptB hb ok) ks (hb.block b hlt) h
theorem RowAt.below {ok : Nat → Prop} {w w' : World} {al : Option Addr} {ks : List Rx} (h : RowAt ok w al ks) (hb : Below w.heap.size w w') : RowAt ok w' al ks := h.go (keptB hb ok)
theorem ReAt.below {ok : Nat → Prop} {w w' : World} {v : Value} {r : Rx} (h : ReAt ok w v r) (hb : Below w.heap.size w w') : ReAt ok w' v r := h.go (keptB hb ok)
theorem ReAt.imp {ok ok' : Nat → Prop} {w : World} {v : Value} {r : Rx} (h : ReAt ok w v r) (hi : ∀ b, b < w.heap.size → ok b → ok' b) : ReAt ok' w v r := h.go ⟨Nat.le_refl _, fun b h1 h2 => ⟨hi b h1 h2, rfl⟩⟩
theorem RowAt.imp {ok ok' : Nat → Prop} {w : World} {al : Option Addr} {ks : List Rx} (h : RowAt ok w al ks) (hi : ∀ b, b < w.heap.size → ok b → ok' b) : RowAt ok' w al ks := h.go ⟨Nat.le_refl _, fun b h1 h2 => ⟨hi b h1 h2, rfl⟩⟩
theorem RowAt.kid {ok : Nat → Prop} {w : World} {al : Option Addr} {ks : List Rx} (h : RowAt ok w al ks) {i : Nat} (hi : i < ks.length) :
    ∃ b off, al = some ⟨b, off, none⟩ ∧ b < w.heap.size ∧ NodeAt ok w b (off + i * 6) ks[i] := by
  rcases h with h | ⟨b, off, e, hlt, _, h⟩
  · subst h; simp at hi
  · exact ⟨b, off, e, hlt, nodesAt_get h i hi⟩
theorem RowAt.kidOk {ok : Nat → Prop} {w : World} {al : Option Addr} {ks : List Rx} (h : RowAt ok w al ks) {i : Nat} (hi : i < ks.length) :
    ∃ b off, al = some ⟨b, off, none⟩ ∧ b < w.heap.size ∧ ok b ∧ NodeAt ok w b (off + i * 6) ks[i] := by
  rcases h with h | ⟨b, off, e, hlt, ho, h⟩
  · subst h; simp at hi
  · exact ⟨b, off, e, hlt, ho, nodesAt_get h i hi⟩
open Go.RowKit
def cntOk (z : Int) (most size : Nat) : Prop := ∃ c : Nat, z = c ∧ c ≤ size ∧ (size ≤ most → c = size) ∧ (most < size → most < c)
theorem cntOk_add {n z : Int} {most a b : Nat} (h : cntOk n most a) (hn : ¬ (most : Int) < n) (h' : cntOk z most b) (hm : a + b ≤ 1000000000) : cntOk (wrap64 (n + z)) most (a + b) := by
  obtain ⟨c, rfl, h1, h2, h3⟩ := h; obtain ⟨d, rfl, e1, e2, e3⟩ := h'; (have hw : wrap64 ((c : Int) + (d : Int)) = ((c + d : Nat) : Int) := by unfold wrap64; omega); refine ⟨c + d, hw, by omega, ?_, ?_⟩
  · intro h; have := h2 (by omega); have := e2 (by omega); omega
  · intro h
    by_cases q : a ≤ most
    · have := h2 q
      by_cases q' : b ≤ most
      · have := e2 q'; omega
      · have := e3 (by omega); omega
    · have := h3 (by omega); omega
def CountPost (r : Rx) (most : Nat) (w : World) (e : Ending) (w' : World) : Prop := ∃ z : Int, e = .returned (.int .i64 z) ∧ (r.size ≤ 1000000000 → cntOk z most r.size) ∧ Below w.heap.size w w'
def countInv (ks : List Rx) (most : Nat) (w : World) (g : Nat) (v : Value) (x y : Value) (wr : World) : Prop := ∃ (i : Nat) (n : Int), i ≤ ks.length ∧ x = .int .i64 n ∧ y = .int .i64 i ∧ (1 + Rx.sizes ks ≤ 1000000000 → cntOk n most (1 + Rx.sizes (ks.take i))) ∧ wr.cell? ⟨g, 5, none⟩ = some v ∧ Below w.heap.size w wr
theorem box_lt {w : World} {g o : Nat} {v : Value} (h : w.cell? ⟨g, o, none⟩ = some v) : g < w.heap.size := by
  rcases Nat.lt_or_ge g w.heap.size with h' | h'
  · exact h'
  · simp [World.cell?, Array.getElem?_eq_none h'] at h
set_option maxHeartbeats 2000000 in
theorem count_any {ok : Nat → Prop} (N : Nat) : ∀ (r : Rx), r.size ≤ N → ∀ (most : Nat) (v : Value) (w : World), ReAt ok w v r → most ≤ 1000000 →
    Calls Tryz.prog 34 #[v, .int .i64 most] w (CountPost r most w) := by
  induction N with
  | zero => intro r h; have := r.size_pos; omega
  | succ N ih =>
    rintro ⟨k, s, ks⟩ hN most v w hR hmost; obtain ⟨hk, hs, al, cap, rfl, hcap, hmax, hrow⟩ := hR; (have hN' : Rx.sizes ks ≤ N := by simp [Rx.size] at hN; omega); have IH := Lib.hid ih; have HR := Lib.hid hrow; have HSZ := Lib.hid (show (Rx.node k s ks).size = 1 + Rx.sizes ks from by simp [Rx.size]); obtain ⟨sa, sb, sc, sd⟩ := s; clear ih hrow hN; go_enter Tryz.func34, Tryz.ntmps34; go_wp2
    go_loopw [5, 10] (fun x y wr => countInv ks most w w.heap.size (.slice al ks.length cap) x y wr) (fun _ y _ => ks.length - (intOf y).toNat)
    case atStart =>
      refine ⟨0, 1, Nat.zero_le _, rfl, rfl, fun _ => ⟨1, rfl, by simp, by simp [Rx.sizes], by simp [Rx.sizes]⟩, ?_, (Below.refl _ _).alloc (Nat.le_refl _) _⟩; simp
    case round =>
      obtain ⟨i, n, hi, rfl, rfl, h1, hc5, hb⟩ := hrel; have H1 := Lib.hid h1; clear h1
      by_cases hlt : i < ks.length
      · by_cases hgt : (most : Int) < n
        · (have d1 : decide ((most : Int) < n) = true := by simpa using hgt); go_wp2; go_ret; refine ⟨n, rfl, ?_, hb⟩; rw [HSZ.out]; intro h; obtain ⟨c, rfl, e1, e2, e3⟩ := H1.out h; have hle := sizes_take_le ks i; exact ⟨c, rfl, by omega, fun q => by have := e2 (by omega); omega, fun q => by omega⟩
        · (have d1 : decide ((most : Int) < n) = false := by simpa using hgt); obtain ⟨b, off, hab, hblt, hnode⟩ := HR.out.kid hlt; subst hab; have hkid := NodeAt.below hb _ hblt hnode; have hks := size_kid hlt; have htk := sizes_take ks i hlt; have hle2 := sizes_take_le ks (i + 1); generalize ks[i] = kid at *; obtain ⟨k', ⟨ta, tb, tc, td⟩, ks'⟩ := kid; obtain ⟨al', cap', ⟨c0, c1, c2, c3, c4, c5⟩, hre⟩ := hkid.read; have KC := Lib.hid (IH.out (.node k' ⟨ta, tb, tc, td⟩ ks') (by omega) most _ wr hre hmost); have HTK := Lib.hid htk; have HGT := Lib.hid hgt; have HLE := Lib.hid hle2; simp only at c0 c1 c2 c3 c4 c5; clear hkid hre hnode htk hgt hle2; go_wp2_with fail; refine KC.out.mono ?_; rintro e w1 ⟨c, rfl, e1, hb1⟩; have E1 := Lib.hid e1; have hc5' := hb1.cell (p := ⟨w.heap.size, 5, none⟩) (box_lt hc5); rw [hc5] at hc5'; replace hb := hb.trans (hb1.mono hb.size); clear e1 c0 c1 c2 c3 c4 c5 hb1 hc5; go_wp2; refine ⟨⟨i + 1, _, by omega, rfl, by go_num, ?_, hc5', hb⟩, by simp [intOf]; omega⟩; intro h; have ht := HTK.out; have hl := HLE.out; rw [ht, ← Nat.add_assoc]; exact cntOk_add (H1.out h) (by have := HGT.out; omega) (E1.out (by omega)) (by omega)
      · have he : ks.take i = ks := List.take_of_length_le (by omega); rw [he] at H1; go_wp2; go_ret; exact ⟨n, rfl, by rw [HSZ.out]; exact H1.out, hb⟩
def greatB (r : Rx) (most : Nat) : Bool := decide (most < r.size)
set_option maxHeartbeats 1000000 in
theorem great_any {ok : Nat → Prop} (r : Rx) (most : Nat) (v : Value) (w : World) (h : ReAt ok w v r) (hmost : most ≤ 1000000) :
    Calls Tryz.prog 20 #[v, .int .i64 most] w fun e w' => (∃ q, e = .returned (.bool q) ∧ (r.size ≤ 1000000000 → q = greatB r most)) ∧ Below w.heap.size w w' := by
  have KC := Lib.hid fun W (h : ReAt ok W v r) => count_any r.size r (Nat.le_refl _) most v W h hmost; obtain ⟨k, s, ks⟩ := r; have HR := Lib.hid h; obtain ⟨hk, hs, al, cap, rfl, hcap, hmax, hrow⟩ := h; clear hrow; obtain ⟨sa, sb, sc, sd⟩ := s; generalize Rx.node k ⟨sa, sb, sc, sd⟩ ks = r at *; go_enter Tryz.func20, Tryz.ntmps20; go_wp2_with fail; refine (KC.out _ (HR.out.below ((Below.refl _ w).alloc (Nat.le_refl _) _))).mono ?_; rintro e w1 ⟨z, rfl, e1, hb1⟩; have E1 := Lib.hid e1; clear e1; go_wp2; go_ret; refine ⟨⟨_, rfl, fun h => ?_⟩, ((Below.refl _ w).alloc (Nat.le_refl _) _).trans (hb1.mono (by simp))⟩; obtain ⟨c, rfl, e1, e2, e3⟩ := E1.out h; unfold greatB; rw [decide_eq_decide]
  by_cases h : r.size ≤ most
  · have := e2 h; omega
  · have := e3 (by omega); omega
open Go.RowKit
theorem part0 (x0 x1 x2 x3 : Value) (w : World) : (part 35 #[x0, x1, x2, x3] 0).run Tryz.prog w = .ok x0 w := by kernel_rfl
theorem part1 (x0 x1 x2 x3 : Value) (w : World) : (part 35 #[x0, x1, x2, x3] 1).run Tryz.prog w = .ok x1 w := by kernel_rfl
theorem part2 (x0 x1 x2 x3 : Value) (w : World) : (part 35 #[x0, x1, x2, x3] 2).run Tryz.prog w = .ok x2 w := by kernel_rfl
theorem part3 (x0 x1 x2 x3 : Value) (w : World) : (part 35 #[x0, x1, x2, x3] 3).run Tryz.prog w = .ok x3 w := by kernel_rfl
theorem size24 (w : World) : (sizeOf 35).run Tryz.prog w = .ok 1 w := by kernel_rfl
set_option maxRecDepth 100000 in
theorem eqSet (a b c d a' b' c' d' : Int) (w : World) :
    (Op.equalIn 10000 37 (.agg #[.int .u64 a, .int .u64 b, .int .u64 c, .int .u64 d]) (.agg #[.int .u64 a', .int .u64 b', .int .u64 c', .int .u64 d'])).run Tryz.prog w = .ok (a == a' && (b == b' && (c == c' && d == d'))) w := by
  rw [show (10000 : Nat) = 9998 + 1 + 1 from rfl, Op.equalIn]; simp only [Sem.run_bind, run_underlying Tryz.underlying37, Result.andThen_ok, size24]; simp only [Std.Legacy.Range.forIn_eq_forIn_range', Std.Legacy.Range.size, List.range']; simp [Sem.run_bind, part0, part1, part2, part3, run_equalIn_int _ _ _ _ _ _ _ Tryz.underlying35, Result.andThen_ok]
  by_cases h0 : a = a'
  · by_cases h1 : b = b'
    · by_cases h2 : c = c'
      · by_cases h3 : d = d' <;> simp [h0, h1, h2, h3]
      · simp [h0, h1, h2]
    · simp [h0, h1]
  · simp [h0]
theorem eqW_yes (s : Ws) (w : World) : (Op.equalIn 10000 37 s.v s.v).run Tryz.prog w = .ok true w := by
  unfold Ws.v; rw [eqSet]; simp
theorem eqW_no {s t : Ws} (h : s ≠ t) (w : World) : (Op.equalIn 10000 37 s.v t.v).run Tryz.prog w = .ok false w := by
  obtain ⟨a, b, c, d⟩ := s; obtain ⟨a', b', c', d'⟩ := t; unfold Ws.v; rw [eqSet]; have : ¬ (a = a' ∧ b = b' ∧ c = c' ∧ d = d') := fun e => h (by simp [e])
  congr 1
  simp only [Bool.and_eq_false_iff, beq_eq_false_iff_ne]; omega
open Go.RowKit
def dblInv (n : Nat) (o i : Value) : Prop := ∃ k y : Nat, k ≤ n % 64 ∧ y = 2 ^ k ∧ i = .int .i64 k ∧ o = .int .u64 y
theorem add_bit64 {x n : Nat} (hx : x < 18446744073709551616) (h : x.testBit (n % 64) = false) : x + 2 ^ (n % 64) < 18446744073709551616 := by
  rw [add_bit h]; exact or_lt hx (pow_lt64 n)
set_option maxHeartbeats 2000000 in
theorem refWith_not (s : Ws) (n : Nat) (w : World) (hs : s.Ok) (hn : n < 256) (hh : s.has n = false) :
    Calls Tryz.prog 102 #[s.v, .int .i64 n] w fun e w' => e = .returned (s.ins n).v ∧ Below w.heap.size w w' := by
  have HH := Lib.hid hh; unfold Ws.has at hh; unfold Ws.ins; rw [← add_bit hh]; have hlt := Lib.hid (add_bit64 (Ws.get_lt hs _) hh); clear hh; obtain ⟨a, b, c, d⟩ := s; obtain ⟨x, hx⟩ : ∃ x, Ws.get ⟨a, b, c, d⟩ (n / 64) = x := ⟨_, rfl⟩; rw [hx] at hlt ⊢; (have hq : n / 64 = 0 ∨ n / 64 = 1 ∨ n / 64 = 2 ∨ n / 64 = 3 := by omega)
  rcases hq with hq | hq | hq | hq
  all_goals
    (have k1 : (n : Int) / 64 = ((n / 64 : Nat) : Int) := by omega); rw [hq] at k1 hx; rw [hq]; simp [Ws.get, Ws.put] at k1 hx ⊢; replace hx := hx.symm; subst hx; clear hq; unfold Ws.v; go_enter Tryz.func102, Tryz.ntmps102; go_wp2_with fail; refine (refHas_any _ n _ hs hn).mono ?_; rw [HH.out]; rintro e w1 ⟨rfl, hb1⟩; have hx0 := ((Box.new4 w _ _ _ _).alloc _).below hb1 (by simp; omega)
    have hy0 : Box w1 (w.heap.size + 1) Ws.nil := by
      have := (Box.zero (w.alloc _)).below hb1 (by simp)
      simpa using this
    have hbw : Below w.heap.size w w1 := (((Below.refl _ w).alloc (Nat.le_refl _) _).alloc (by simp) _).trans (hb1.mono (by simp; omega)); have hx' := hx0.all; have hy := hy0.all; simp only [Ws.nil] at hy; simp at hy; obtain ⟨⟨c0, c1, c2, c3⟩, f0, f1, f2, f3⟩ := hx'; obtain ⟨⟨d0, d1, d2, d3⟩, g0, g1, g2, g3⟩ := hy; clear hb1; go_wp2
    go_loop [5, 6] (fun o i => dblInv n o i) (fun _ i => n % 64 - (intOf i).toNat)
    case atStart => exact ⟨0, 1, Nat.zero_le _, rfl, rfl, rfl⟩
    case round =>
      obtain ⟨k, y, hk, hy, rfl, rfl⟩ := hrel
      have hlt64 : 2 * y < 18446744073709551616 ∨ k = n % 64 := by
        by_cases e : k = n % 64
        · exact .inr e
        · have := Nat.pow_lt_pow_right (a := 2) (by decide) (show k + 1 < 64 by omega); rw [Nat.pow_succ] at this
          left; rw [hy]; omega
      have HY := Lib.hid hy; clear hy
      by_cases hlt' : k < n % 64
      · (replace hlt64 : 2 * y < 18446744073709551616 := by omega); go_wp2; refine ⟨⟨k + 1, 2 * y, by omega, ?_, by go_num, ?_⟩, by simp [intOf]; omega⟩
        · rw [HY.out, Nat.pow_succ]; omega
        · simp
      · clear hlt64; (obtain rfl : k = n % 64 := by omega); (have HL : x + y < 18446744073709551616 := by rw [HY.out]; exact hlt.out); go_wp2; (have e : (x : Int) + (y : Int) = ((x + 2 ^ (n % 64) : Nat) : Int) := by rw [← HY.out]; rfl); rw [e]; refine ret_box (g := w.heap.size + 1) (Box.put4 (w := w1.setCell _ _) (s := Ws.nil) (hy0.far (by simp) _) _ _ _ _) Tryz.results102 rfl rfl ⟨rfl, below_put (hbw.setCell (by simp) _) (by simp) _ _ _ _⟩
theorem refWith_any (s : Ws) (n : Nat) (w : World) (hs : s.Ok) (hn : n < 256) :
    Calls Tryz.prog 102 #[s.v, .int .i64 n] w fun e w' => e = .returned (s.ins n).v ∧ Below w.heap.size w w' := by
  by_cases h : s.has n = true
  · exact refWith_has s n w hs hn h
  · exact refWith_not s n w hs hn (by simpa using h)
open Go.RowKit
structure Fm (X : Nat → Prop) (w w' : World) : Prop where
  os : w'.os = w.os
  tape : w'.tape = w.tape
  output : w'.output = w.output
  size : w.heap.size ≤ w'.heap.size
  block : ∀ k, k < w.heap.size → ¬ X k → w'.heap[k]? = w.heap[k]?
theorem Fm.refl (X : Nat → Prop) (w : World) : Fm X w w := ⟨rfl, rfl, rfl, Nat.le_refl _, fun _ _ _ => rfl⟩
theorem Fm.then {X Y : Nat → Prop} {w w1 w2 : World} (h : Fm X w w1) (k : Fm Y w1 w2) (hY : ∀ x, x < w.heap.size → Y x → X x) : Fm X w w2 :=
  ⟨k.os.trans h.os, k.tape.trans h.tape, k.output.trans h.output, Nat.le_trans h.size k.size, fun x hx hn => (k.block x (Nat.lt_of_lt_of_le hx h.size) fun hy => hn (hY x hx hy)).trans (h.block x hx hn)⟩
theorem Fm.trans {X : Nat → Prop} {w w1 w2 : World} (h : Fm X w w1) (k : Fm X w1 w2) : Fm X w w2 := h.then k fun _ _ h => h
theorem Fm.mono {X Y : Nat → Prop} {w w1 : World} (h : Fm X w w1) (hY : ∀ x, x < w.heap.size → X x → Y x) : Fm Y w w1 := ⟨h.os, h.tape, h.output, h.size, fun x hx hn => h.block x hx fun hy => hn (hY x hx hy)⟩
theorem Fm.below {X : Nat → Prop} {w w1 : World} (h : Below w.heap.size w w1) : Fm X w w1 := ⟨h.os, h.tape, h.output, h.size, fun x hx _ => h.block x hx⟩
theorem Fm.to {X : Nat → Prop} {B : Nat} {w w1 : World} (h : Fm X w w1) (hB : B ≤ w.heap.size) (hX : ∀ x, X x → B ≤ x) : Below B w w1 := ⟨h.os, h.tape, h.output, h.size, fun x hx => h.block x (by omega) fun hy => by have := hX x hy; omega⟩
theorem Fm.grown {X : Nat → Prop} {w w1 : World} {row : Option Nat} (h : w.grownBy w1 row) (hX : ∀ x, row = some x → X x) : Fm X w w1 := ⟨h.os, h.tape, h.output, h.size, fun x hx hn => h.block x hx fun e => hn (hX x e.symm)⟩
theorem Fm.set {X : Nat → Prop} {w : World} (a : Addr) (u : Value) (hX : X a.block) : Fm X w (w.setCell a u) := ⟨rfl, rfl, rfl, by simp [World.setCell], fun x _ hn => Below.heap_setCell _ _ _ _ fun e => hn (by rw [e]; exact hX)⟩
theorem Fm.alloc {X : Nat → Prop} (w : World) (o : Obj) : Fm X w (w.alloc o) := Fm.below ((Below.refl _ w).alloc (Nat.le_refl _) o)
theorem Fm.drew {X : Nat → Prop} (w : World) : Fm X w w.drew := Fm.below (Below.refl _ w).drew
open Go.RowKit
theorem idx0 (x0 x1 x2 x3 : Value) (w : World) : (Instr.index 37 (.agg #[x0, x1, x2, x3]) (.int .i64 0)).run Tryz.prog w = .ok x0 w := by kernel_rfl
theorem idx1 (x0 x1 x2 x3 : Value) (w : World) : (Instr.index 37 (.agg #[x0, x1, x2, x3]) (.int .i64 1)).run Tryz.prog w = .ok x1 w := by kernel_rfl
theorem idx2 (x0 x1 x2 x3 : Value) (w : World) : (Instr.index 37 (.agg #[x0, x1, x2, x3]) (.int .i64 2)).run Tryz.prog w = .ok x2 w := by kernel_rfl
theorem idx3 (x0 x1 x2 x3 : Value) (w : World) : (Instr.index 37 (.agg #[x0, x1, x2, x3]) (.int .i64 3)).run Tryz.prog w = .ok x3 w := by kernel_rfl
open Go.RowKit
def MemB (w : World) (mb : Nat) (c0 c1 c2 c3 c4 c5 c6 c7 : Value) : Prop := w.heap[mb]? = some (.cells #[c0, c1, c2, c3, c4, c5, c6, c7] 76)
theorem set_block {w : World} {g : Nat} {arr : Array Value} {T : TypeId} (h : w.heap[g]? = some (.cells arr T)) (o : Nat) (y : Value) : (w.setCell ⟨g, o, none⟩ y).heap[g]? = some (.cells (arr.setIfInBounds o y) T) := by
  simp [World.setCell, Array.getElem?_modify, h]
section
variable {w : World} {mb : Nat} {c0 c1 c2 c3 c4 c5 c6 c7 : Value} (h : MemB w mb c0 c1 c2 c3 c4 c5 c6 c7)
include h
theorem MemB.lt : mb < w.heap.size := (Array.getElem?_eq_some_iff.1 h).1
theorem MemB.cells : (w.cell? ⟨mb, 0, none⟩ = some c0 ∧ w.cell? ⟨mb, 1, none⟩ = some c1 ∧ w.cell? ⟨mb, 2, none⟩ = some c2 ∧ w.cell? ⟨mb, 3, none⟩ = some c3) ∧ (w.cell? ⟨mb, 4, none⟩ = some c4 ∧ w.cell? ⟨mb, 5, none⟩ = some c5 ∧ w.cell? ⟨mb, 6, none⟩ = some c6 ∧ w.cell? ⟨mb, 7, none⟩ = some c7) ∧ ∀ o, w.frozen? ⟨mb, o, none⟩ = false :=
  ⟨⟨(Lib.cell_of_heap h _).trans rfl, (Lib.cell_of_heap h _).trans rfl, (Lib.cell_of_heap h _).trans rfl, (Lib.cell_of_heap h _).trans rfl⟩, ⟨(Lib.cell_of_heap h _).trans rfl, (Lib.cell_of_heap h _).trans rfl, (Lib.cell_of_heap h _).trans rfl, (Lib.cell_of_heap h _).trans rfl⟩, Lib.frozen_of_heap h⟩
theorem MemB.set1 (y : Value) : MemB (w.setCell ⟨mb, 1, none⟩ y) mb c0 y c2 c3 c4 c5 c6 c7 := set_block h 1 y
theorem MemB.set2 (y : Value) : MemB (w.setCell ⟨mb, 2, none⟩ y) mb c0 c1 y c3 c4 c5 c6 c7 := set_block h 2 y
theorem MemB.set3 (y : Value) : MemB (w.setCell ⟨mb, 3, none⟩ y) mb c0 c1 c2 y c4 c5 c6 c7 := set_block h 3 y
theorem MemB.set5 (y : Value) : MemB (w.setCell ⟨mb, 5, none⟩ y) mb c0 c1 c2 c3 c4 y c6 c7 := set_block h 5 y
theorem MemB.set6 (y : Value) : MemB (w.setCell ⟨mb, 6, none⟩ y) mb c0 c1 c2 c3 c4 c5 y c7 := set_block h 6 y
theorem MemB.set7 (y : Value) : MemB (w.setCell ⟨mb, 7, none⟩ y) mb c0 c1 c2 c3 c4 c5 c6 y := set_block h 7 y
theorem MemB.of {w' : World} (e : w'.heap[mb]? = w.heap[mb]?) : MemB w' mb c0 c1 c2 c3 c4 c5 c6 c7 := e.trans h
theorem MemB.drew : MemB w.drew mb c0 c1 c2 c3 c4 c5 c6 c7 := h
theorem MemB.alloc (o : Obj) : MemB (w.alloc o) mb c0 c1 c2 c3 c4 c5 c6 c7 := h.of (Below.heap_alloc _ _ _ h.lt)
theorem MemB.below {w' : World} (hb : Below w.heap.size w w') : MemB w' mb c0 c1 c2 c3 c4 c5 c6 c7 := h.of (hb.block _ h.lt)
end
def At1 (b : Nat) : Nat → Prop := fun x => x = b
theorem Fm.set1 {b o : Nat} {w w' : World} (h : Fm (At1 b) w w') (y : Value) : Fm (At1 b) w (w'.setCell ⟨b, o, none⟩ y) := h.trans (Fm.set ⟨b, o, none⟩ y rfl)
theorem Fm.drew1 {X : Nat → Prop} {w w' : World} (h : Fm X w w') : Fm X w w'.drew := h.trans (Fm.drew w')
theorem Fm.alloc1 {X : Nat → Prop} {w w' : World} (h : Fm X w w') (o : Obj) : Fm X w (w'.alloc o) := h.trans (Fm.alloc w' o)
theorem load64 (b o : Nat) (x : Int) (w : World) (hc : w.cell? ⟨b, o, none⟩ = some (.int .i64 x)) :
    Calls Tryz.prog 33 #[.pointer (some ⟨b, o, none⟩)] w fun e w' => e = .returned (.int .i64 x) ∧ w' = w := by
  have hl := run_call_load (P := Tryz.prog) Tryz.func50 (by kernel_rfl) (by kernel_rfl) (by kernel_rfl) .i64 (by kernel_rfl) hc; go_enter Tryz.func33, Tryz.ntmps33; go_wp2; go_ret; exact ⟨rfl, rfl⟩
theorem add64 (b o : Nat) (x : Int) (w : World) (hc : w.cell? ⟨b, o, none⟩ = some (.int .i64 x)) (hz : w.frozen? ⟨b, o, none⟩ = false) (h0 : 0 ≤ x) (h1 : x < 1000000000) :
    Calls Tryz.prog 41 #[.pointer (some ⟨b, o, none⟩), .int .i64 1] w fun e w' => e = .returned (.int .i64 (x + 1)) ∧ w' = w.setCell ⟨b, o, none⟩ (.int .i64 (x + 1)) := by
  have hadd := run_call_add (P := Tryz.prog) Tryz.func57 (by kernel_rfl) (by kernel_rfl) (by kernel_rfl) .i64 (by kernel_rfl) (y := 1) (s := x + 1) hc hz (by simp [go_sem]; rw [IntKind.wrap_i64]; omega); go_enter Tryz.func41, Tryz.ntmps41; go_wp2; go_ret; exact ⟨rfl, rfl⟩
theorem race_disable (w : World) : (callFunc 162 #[]).run Tryz.prog w = .ok (.value (.tuple #[])) w := run_call_mark0 Tryz.func162 (by kernel_rfl) (by kernel_rfl) (by kernel_rfl) .disable (by kernel_rfl) w
theorem race_enable (w : World) : (callFunc 164 #[]).run Tryz.prog w = .ok (.value (.tuple #[])) w := run_call_mark0 Tryz.func164 (by kernel_rfl) (by kernel_rfl) (by kernel_rfl) .enable (by kernel_rfl) w
theorem race_acquire (a : Addr) (w : World) : (callFunc 165 #[.pointer (some a)]).run Tryz.prog w = .ok (.value (.tuple #[])) w := run_call_marked Tryz.func165 (by kernel_rfl) (by kernel_rfl) (by kernel_rfl) .acquire (by kernel_rfl) a w
theorem race_release (a : Addr) (w : World) : (callFunc 167 #[.pointer (some a)]).run Tryz.prog w = .ok (.value (.tuple #[])) w := run_call_marked Tryz.func167 (by kernel_rfl) (by kernel_rfl) (by kernel_rfl) .releaseMerge (by kernel_rfl) a w
theorem store_deferred (a : Addr) (x : Value) (u : FrameMode) (w : World) (hc : w.cell? a = some x) (hz : w.frozen? a = false) :
    CallsD Tryz.prog 127 #[.pointer (some a), .bool true] u w fun e u' w' => u' = u ∧ (e = .returned (.tuple #[]) ∧ w' = w.drew.setCell a (.int .u32 1)) := by
  (have hc' : w.drew.cell? a = some x := by go_simp); (have hz' : w.drew.frozen? a = false := by go_simp); have hst := run_call_store (P := Tryz.prog) Tryz.func144 (by kernel_rfl) (by kernel_rfl) (by kernel_rfl) (by kernel_rfl) (k := .u32) (y := 1) hc' hz'
  go_enter_d Tryz.func127, Tryz.ntmps127
  go_wp2
  go_region_calls
  all_goals (go_end0; exact ⟨rfl, rfl⟩)
set_option maxRecDepth 100000 in
theorem unlock_deferred (a : Addr) (u : FrameMode) (w : World) (hc : w.cell? a = some (.int .i32 1)) (hz : w.frozen? a = false) :
    CallsD Tryz.prog 126 #[.pointer (some a)] u w fun e u' w' => u' = u ∧ (e = .returned (.tuple #[]) ∧ w' = w.setCell a (.int .i32 0)) := by
  have hd := race_disable; have he := race_enable; have hr := race_release; have hadd := run_call_add (P := Tryz.prog) Tryz.func168 (by kernel_rfl) (by kernel_rfl) (by kernel_rfl) .i32 (by kernel_rfl) (y := -1) (s := 0) hc hz (by simp [go_sem]; rfl); have hcv := run_convert_to_unsafe (P := Tryz.prog) (src := 198) (dst := 170) Tryz.underlying198 Tryz.underlying170 (by kernel_rfl) hc
  go_enter_d Tryz.func126, Tryz.ntmps126
  go_wp2; go_end0; go_wp2; go_end0; exact ⟨rfl, rfl⟩
set_option maxRecDepth 100000 in
theorem lock_free (a : Addr) (w : World) (hc : w.cell? a = some (.int .i32 0)) (hz : w.frozen? a = false) :
    Calls Tryz.prog 125 #[.pointer (some a)] w fun e w' => e = .returned (.tuple #[]) ∧ w' = w.setCell a (.int .i32 1) := by
  have hd := race_disable; have he := race_enable; have ha := race_acquire; have hcas := run_call_cas_hit (P := Tryz.prog) Tryz.func163 (by kernel_rfl) (by kernel_rfl) (by kernel_rfl) .i32 (by kernel_rfl) (y := 1) hc hz; have hc' : (w.setCell a (.int .i32 1)).cell? a = some (.int .i32 1) := World.cell?_setCell_same w a _ hc; have hcv := run_convert_to_unsafe (P := Tryz.prog) (src := 198) (dst := 170) Tryz.underlying198 Tryz.underlying170 (by kernel_rfl) hc'; go_enter Tryz.func125, Tryz.ntmps125; go_wp2
  first | go_end0 | (simp only [Exit.inBlock, Exit.then]; refine bodyPost_ret (results_none rfl _ _ _) rfl ?_) | refine bodyPost_ret (results_none rfl _ _ _) rfl ?_
  go_wp2; go_end0; exact ⟨rfl, rfl⟩
end Go.Proofs.YthgghaaddankoaaGreatDoor
