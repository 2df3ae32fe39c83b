/- Lemmas of mine, merged: NullF, NullG, RexI, RexJ, RexK, RexL, RexN, RexP, RexQ, RexS, RexU, NullB, RexT, RdrA, RdrQ. -/
import Derived.Deep.RegionWith
import Derived.Test.YthnecifdgoeenaaRexEAll
import Derived.Test.YthnecifdgoeenaaSetDAll
import Derived.Test.YthnecifdgoeenaaSetAAll
import Derived.Deep.RegionHeld3
import Derived.Test.YthnecifdgoeenaaSetCAll
import Derived.OwnWalk
import Derived.Test.YthnecifdgoeenaaRexBAll
import Derived.RegionTactic
import Derived.Laws.DeepStrings4
import Derived.Deep.QuietTactic
import Derived.BigQuiet
import Derived.BigRegion
import Derived.Recover
import Derived.Test.YthnecifdgoeenaaQuietBAll
import Derived.Defers
/- null's begin: how an expression's texts begin; isBare, void, only, beginOfBoth. -/
namespace Go.Proofs.Ythnecifdgoeenaa
open Go.RowKit
/-- A block that holds a beginning. -/
def Bg (w : World) (g : Nat) (n : Bool) (s : Ws) : Prop := w.heap[g]? = some (.cells #[.bool n, .int .u64 s.a, .int .u64 s.b, .int .u64 s.c, .int .u64 s.d] 46 (0, 0))
def bgV (n : Bool) (s : Ws) : Value := .agg #[.bool n, .int .u64 s.a, .int .u64 s.b, .int .u64 s.c, .int .u64 s.d]
theorem Bg.lt {w : World} {g : Nat} {n : Bool} {s : Ws} (h : Bg w g n s) : g < w.heap.size := (Array.getElem?_eq_some_iff.1 h).1
theorem Bg.cells {w : World} {g : Nat} {n : Bool} {s : Ws} (h : Bg w g n s) : w.cell? ⟨g, 0, none⟩ = some (.bool n) ∧ w.cell? ⟨g, 1, none⟩ = some (.int .u64 s.a) ∧ w.cell? ⟨g, 2, none⟩ = some (.int .u64 s.b) ∧ w.cell? ⟨g, 3, none⟩ = some (.int .u64 s.c) ∧ w.cell? ⟨g, 4, none⟩ = some (.int .u64 s.d) := by
  unfold Bg at h
  refine ⟨?_, ?_, ?_, ?_, ?_⟩ <;> (rw [Lib.cell_of_heap h]; rfl)
theorem Bg.frozen {w : World} {g : Nat} {n : Bool} {s : Ws} (h : Bg w g n s) (i : Nat) : w.frozen? ⟨g, i, none⟩ = false := Lib.frozen_of_heap h i
theorem Bg.below {w w' : World} {g B : Nat} {n : Bool} {s : Ws} (h : Bg w g n s) (hb : Below B w w') (hg : g < B) : Bg w' g n s := (hb.block g hg).trans h
theorem Bg.new {W : World} {g : Nat} (n : Bool) (a b c d : Nat) (hg : g = W.heap.size) : Bg (W.alloc (.cells #[.bool n, .int .u64 a, .int .u64 b, .int .u64 c, .int .u64 d] 46)) g n ⟨a, b, c, d⟩ := by
  subst hg
  show (W.heap.push _)[W.heap.size]? = _
  simp
theorem Bg.zero {W : World} {g : Nat} (hg : g = W.heap.size) : Bg (W.alloc (.cells #[.bool false, .int .u64 0, .int .u64 0, .int .u64 0, .int .u64 0] 46)) g false Ws.nil := Bg.new false 0 0 0 0 hg
theorem Bg.alloc {w : World} {g : Nat} {n : Bool} {s : Ws} (h : Bg w g n s) (o : Obj) : Bg (w.alloc o) g n s := by
  have := h.lt
  unfold Bg at h ⊢
  rw [← h]
  exact Below.heap_alloc w o g this
theorem Bg.drew {w : World} {g : Nat} {n : Bool} {s : Ws} (h : Bg w g n s) : Bg w.drew g n s := h
theorem Bg.far {w : World} {g : Nat} {n : Bool} {s : Ws} (h : Bg w g n s) {p : Addr} (hp : g ≠ p.block) (v : Value) : Bg (w.setCell p v) g n s := by
  unfold Bg at h ⊢
  rw [← h]
  simp [World.setCell, Array.getElem?_modify]
  intro e
  exact absurd e.symm hp
abbrev putG (w : World) (g : Nat) (x0 x1 x2 x3 x4 : Value) : World := ((((w.setCell ⟨g, 0, none⟩ x0).setCell ⟨g, 1, none⟩ x1).setCell ⟨g, 2, none⟩ x2).setCell ⟨g, 3, none⟩ x3).setCell ⟨g, 4, none⟩ x4
theorem Bg.put {w : World} {g : Nat} {n : Bool} {s : Ws} (h : Bg w g n s) (m : Bool) (a b c d : Nat) : Bg (putG w g (.bool m) (.int .u64 a) (.int .u64 b) (.int .u64 c) (.int .u64 d)) g m ⟨a, b, c, d⟩ := by
  unfold Bg at h ⊢
  simp [putG, World.setCell, Array.getElem?_modify, h]
theorem belowG {w w' : World} {B g : Nat} (h : Below B w w') (hg : B ≤ g) (x0 x1 x2 x3 x4 : Value) : Below B w (putG w' g x0 x1 x2 x3 x4) :=
  ((((h.setCell (p := ⟨g, 0, none⟩) hg _).setCell (p := ⟨g, 1, none⟩) hg _).setCell (p := ⟨g, 2, none⟩) hg _).setCell (p := ⟨g, 3, none⟩) hg _).setCell (p := ⟨g, 4, none⟩) hg _
theorem Bg.all {w : World} {g : Nat} {n : Bool} {s : Ws} (h : Bg w g n s) : (w.cell? ⟨g, 0, none⟩ = some (.bool n) ∧ w.cell? ⟨g, 1, none⟩ = some (.int .u64 s.a) ∧ w.cell? ⟨g, 2, none⟩ = some (.int .u64 s.b) ∧ w.cell? ⟨g, 3, none⟩ = some (.int .u64 s.c) ∧ w.cell? ⟨g, 4, none⟩ = some (.int .u64 s.d)) ∧ w.frozen? ⟨g, 0, none⟩ = false ∧ w.frozen? ⟨g, 1, none⟩ = false ∧ w.frozen? ⟨g, 2, none⟩ = false ∧ w.frozen? ⟨g, 3, none⟩ = false ∧ w.frozen? ⟨g, 4, none⟩ = false :=
  ⟨h.cells, h.frozen 0, h.frozen 1, h.frozen 2, h.frozen 3, h.frozen 4⟩
/-- A function whose result lies in a block that holds a beginning. -/
theorem ret_bg {fn : Func} {R : Ending → World → Prop} {a : Act} {W : World} {k g : Nat} {n : Bool} {s : Ws} (hB : Bg W g n s) (hres : fn.results = #[.cell k 46]) (hslot : a.tmps.getD k undef = .pointer (some ⟨g, 0, none⟩)) (hd : a.defers = []) (hR : R (.returned (bgV n s)) W) : bodyPost Try.prog fn R .ret a W := by
  obtain ⟨c0, c1, c2, c3, c4⟩ := hB.cells
  refine bodyPost_ret (v := bgV n s) ?_ hd hR
  have hslot' : a.tmps[k]?.getD undef = .pointer (some ⟨g, 0, none⟩) := by simpa using hslot
  simp [results, hres, hslot', go_sem, c0, c1, c2, c3, c4, bgV]
/-- The parts of a beginning that a call has answered. -/
theorem fld0 (n : Bool) (a b c d : Int) (w : World) : (Instr.field 46 (.agg #[.bool n, .int .u64 a, .int .u64 b, .int .u64 c, .int .u64 d]) 0).run Try.prog w = .ok (.bool n) w := by kernel_rfl
theorem fld1 (n : Bool) (a b c d : Int) (w : World) : (Instr.field 46 (.agg #[.bool n, .int .u64 a, .int .u64 b, .int .u64 c, .int .u64 d]) 1).run Try.prog w = .ok (.agg #[.int .u64 a, .int .u64 b, .int .u64 c, .int .u64 d]) w := by kernel_rfl
/-- A slice of two sets in a block of its own. -/
theorem nsets_two {W : World} {g : Nat} {s t : Ws} {fz : Nat × Nat} (hs : s.Ok) (ht : t.Ok) (h : W.heap[g]? = some (.cells #[.int .u64 s.a, .int .u64 s.b, .int .u64 s.c, .int .u64 s.d, .int .u64 t.a, .int .u64 t.b, .int .u64 t.c, .int .u64 t.d] 28 fz)) :
    SetsAt W (some ⟨g, 0, none⟩) [s, t] := by
  refine ⟨by simp [maxLen], ?_, .inr ⟨g, 0, rfl, (Array.getElem?_eq_some_iff.1 h).1, ?_⟩⟩
  · intro x hx
    simp at hx
    rcases hx with rfl | rfl
    · exact hs
    · exact ht
  · intro i hi
    match i, hi with
    | 0, _ => refine ⟨?_, ?_, ?_, ?_⟩ <;> (rw [Lib.cell_of_heap h]; rfl)
    | 1, _ => refine ⟨?_, ?_, ?_, ?_⟩ <;> (rw [Lib.cell_of_heap h]; rfl)
set_option maxHeartbeats 1000000 in
theorem nulBare_any (s : Ws) (w : World) :
    Calls Try.prog 41 #[s.v] w fun e w' => e = .returned (.bool (bareW s)) ∧ Below w.heap.size w w' := by
  by_cases hs : s = Ws.nil
  · subst hs
    have hq := eqW_yes Ws.nil
    rw [show bareW Ws.nil = true from rfl]
    rw [nil_v] at hq
    rw [nil_v]
    go_enter Try.func41, Try.ntmps41
    go_wp2
    go_ret
    exact ⟨rfl, (Below.refl _ w).alloc (Nat.le_refl _) _⟩
  · have hq := eqW_no hs
    rw [show bareW s = false from by simp [bareW, hs]]
    clear hs
    rw [nil_v] at hq
    obtain ⟨a, b, c, d⟩ := s
    unfold Ws.v at hq ⊢
    simp only at hq ⊢
    go_enter Try.func41, Try.ntmps41
    go_wp2
    go_ret
    exact ⟨rfl, (Below.refl _ w).alloc (Nat.le_refl _) _⟩
set_option maxHeartbeats 1000000 in
theorem void_any (n : Bool) (s : Ws) (w : World) :
    Calls Try.prog 29 #[bgV n s] w fun e w' => e = .returned (.bool (!n && bareW s)) ∧ Below w.heap.size w w' := by
  have K := Lib.hid (nulBare_any s)
  generalize bareW s = q at *
  obtain ⟨a, b, c, d⟩ := s
  unfold Ws.v at K
  unfold bgV
  simp only at K ⊢
  cases n with
  | true =>
    go_enter Try.func29, Try.ntmps29
    go_wp2
    go_ret
    exact ⟨rfl, (Below.refl _ w).alloc (Nat.le_refl _) _⟩
  | false =>
    go_enter Try.func29, Try.ntmps29
    go_wp2_with fail
    refine (K.out _).mono ?_
    rintro e w1 ⟨rfl, hb1⟩
    go_wp2
    go_ret
    exact ⟨by simp, ((Below.refl _ w).alloc (Nat.le_refl _) _).trans (hb1.mono (by simp))⟩
set_option maxHeartbeats 1000000 in
theorem only_any (n : Bool) (s : Ws) (w : World) :
    Calls Try.prog 33 #[bgV n s] w fun e w' => e = .returned (.bool (n && bareW s)) ∧ Below w.heap.size w w' := by
  have K := Lib.hid (nulBare_any s)
  generalize bareW s = q at *
  obtain ⟨a, b, c, d⟩ := s
  unfold Ws.v at K
  unfold bgV
  simp only at K ⊢
  cases n with
  | false =>
    go_enter Try.func33, Try.ntmps33
    go_wp2
    go_ret
    exact ⟨rfl, (Below.refl _ w).alloc (Nat.le_refl _) _⟩
  | true =>
    go_enter Try.func33, Try.ntmps33
    go_wp2_with fail
    refine (K.out _).mono ?_
    rintro e w1 ⟨rfl, hb1⟩
    go_wp2
    go_ret
    exact ⟨by simp, ((Below.refl _ w).alloc (Nat.le_refl _) _).trans (hb1.mono (by simp))⟩
end Go.Proofs.Ythnecifdgoeenaa
/- null.beginOfBoth. -/
namespace Go.Proofs.Ythnecifdgoeenaa
open Go.RowKit
/-- Three blocks: the two that were handed in, and the result's. -/
def Bg3 (w W : World) (na nb : Bool) (fa fb : Ws) : Prop := Bg W w.heap.size na fa ∧ Bg W (w.heap.size + 1) nb fb ∧ Bg W (w.heap.size + 1 + 1) false Ws.nil ∧ Below w.heap.size w W
theorem Bg3.go {w W W' : World} {na nb : Bool} {fa fb : Ws} (h : Bg3 w W na nb fa fb) (hb : Below W.heap.size W W') : Bg3 w W' na nb fa fb :=
  ⟨h.1.below hb h.1.lt, h.2.1.below hb h.2.1.lt, h.2.2.1.below hb h.2.2.1.lt, h.2.2.2.trans (hb.mono h.2.2.2.size)⟩
theorem Bg3.new (w : World) (na nb : Bool) (a b c d a' b' c' d' : Nat) : Bg3 w (((w.alloc (.cells #[.bool na, .int .u64 a, .int .u64 b, .int .u64 c, .int .u64 d] 46)).alloc (.cells #[.bool nb, .int .u64 a', .int .u64 b', .int .u64 c', .int .u64 d'] 46)).alloc (.cells #[.bool false, .int .u64 0, .int .u64 0, .int .u64 0, .int .u64 0] 46)) na nb ⟨a, b, c, d⟩ ⟨a', b', c', d'⟩ :=
  ⟨((Bg.new na a b c d rfl).alloc _).alloc _, (Bg.new nb a' b' c' d' (by simp)).alloc _, Bg.zero (by simp), (((Below.refl _ w).alloc (Nat.le_refl _) _).alloc (by simp) _).alloc (by simp; omega) _⟩
set_option maxHeartbeats 4000000 in
theorem both_any (na nb : Bool) (fa fb : Ws) (w : World) (oka : fa.Ok) (okb : fb.Ok) :
    Calls Try.prog 40 #[bgV na fa, bgV nb fb] w fun e w' => e = .returned (bgV (bothN na nb fa fb).1 (bothN na nb fa fb).2) ∧ Below w.heap.size w w' := by
  have KV := Lib.hid (void_any nb fb)
  have KJ := Lib.hid fun (g : Nat) (cap : Nat) (W : World) (h : SetsAt W (some ⟨g, 0, none⟩) [fa, fb]) => join_any (some ⟨g, 0, none⟩) [fa, fb] cap W h
  rw [join_two] at KJ
  rw [show [fa, fb].length = 2 from rfl] at KJ
  have HS := Lib.hid fun (W : World) (g : Nat) (h : W.heap[g]? = some (.cells #[.int .u64 fa.a, .int .u64 fa.b, .int .u64 fa.c, .int .u64 fa.d, .int .u64 fb.a, .int .u64 fb.b, .int .u64 fb.c, .int .u64 fb.d] 28 (0, 0))) => nsets_two oka okb h
  have HN := Lib.hid (show bothN na nb fa fb = if (!nb && bareW fb) = true then (nb, fb) else if na = true then (nb, fa.join fb) else (na, fa) from rfl)
  rw [HN.out]
  clear HN oka okb
  generalize (!nb && bareW fb) = q at *
  generalize fa.join fb = j at *
  obtain ⟨fa0, fa1, fa2, fa3⟩ := fa
  obtain ⟨fb0, fb1, fb2, fb3⟩ := fb
  obtain ⟨j0, j1, j2, j3⟩ := j
  unfold Ws.v at KJ
  unfold bgV at KV ⊢
  simp only at KJ KV HS ⊢
  have HB0 := Lib.hid (Bg3.new w na nb fa0 fa1 fa2 fa3 fb0 fb1 fb2 fb3)
  go_enter Try.func40, Try.ntmps40
  go_wp2_with fail
  refine (KV.out _).mono ?_
  rintro e w1 ⟨rfl, hb1⟩
  have HB := Lib.hid (HB0.out.go hb1)
  clear hb1 HB0
  obtain ⟨⟨a0, a1, a2, a3, a4⟩, -⟩ := HB.out.1.all
  obtain ⟨⟨b0, b1, b2, b3, b4⟩, -⟩ := HB.out.2.1.all
  obtain ⟨⟨r0, r1, r2, r3, r4⟩, f0, f1, f2, f3, f4⟩ := HB.out.2.2.1.all
  simp only at a0 a1 a2 a3 a4 b0 b1 b2 b3 b4
  simp only [Ws.nil] at r0 r1 r2 r3 r4
  cases q with
  | true =>
    go_wp2
    exact ret_bg (HB.out.2.2.1.put nb fb0 fb1 fb2 fb3) Try.results40 rfl rfl ⟨rfl, belowG HB.out.2.2.2 (by omega) _ _ _ _ _⟩
  | false =>
    cases na with
    | false =>
      go_wp2
      exact ret_bg (HB.out.2.2.1.put false fa0 fa1 fa2 fa3) Try.results40 rfl rfl ⟨rfl, belowG HB.out.2.2.2 (by omega) _ _ _ _ _⟩
    | true =>
      go_wp2_with fail
      have hW0 := (Below.refl w1.heap.size w1).drew
      have hW1 := ((Below.refl w1.heap.size w1).alloc (Nat.le_refl _) (.cells #[.int .u64 fa0, .int .u64 fa1, .int .u64 fa2, .int .u64 fa3, .int .u64 fb0, .int .u64 fb1, .int .u64 fb2, .int .u64 fb3] 28)).drew
      have hlr : w.heap.size + 1 + 1 ≤ w1.heap.size := Nat.le_of_lt HB.out.2.2.1.lt
      have hV0 := hW0.mono hlr
      have hV1 := hW1.mono hlr
      have HSW := Lib.hid (show SetsAt (w1.alloc (.cells #[.int .u64 fa0, .int .u64 fa1, .int .u64 fa2, .int .u64 fa3, .int .u64 fb0, .int .u64 fb1, .int .u64 fb2, .int .u64 fb3] 28)).drew (some ⟨w1.heap.size, 0, none⟩) [⟨fa0, fa1, fa2, fa3⟩, ⟨fb0, fb1, fb2, fb3⟩] from HS.out _ _ (blk_new w1 _))
      have KEEP := Lib.hid fun x (hx : Below (w.heap.size + 1 + 1) w1 x) => show (x.cell? ⟨w.heap.size, 1, none⟩ = some (.int .u64 fa0) ∧ x.cell? ⟨w.heap.size, 2, none⟩ = some (.int .u64 fa1) ∧ x.cell? ⟨w.heap.size, 3, none⟩ = some (.int .u64 fa2) ∧ x.cell? ⟨w.heap.size, 4, none⟩ = some (.int .u64 fa3) ∧ x.cell? ⟨w.heap.size + 1, 0, none⟩ = some (.bool nb) ∧ x.cell? ⟨w.heap.size + 1, 1, none⟩ = some (.int .u64 fb0) ∧ x.cell? ⟨w.heap.size + 1, 2, none⟩ = some (.int .u64 fb1) ∧ x.cell? ⟨w.heap.size + 1, 3, none⟩ = some (.int .u64 fb2) ∧ x.cell? ⟨w.heap.size + 1, 4, none⟩ = some (.int .u64 fb3)) ∧ Below (w.heap.size + 1 + 1) w1 x from by
        obtain ⟨⟨-, a1, a2, a3, a4⟩, -⟩ := (HB.out.1.below hx (by omega)).all
        obtain ⟨⟨b0, b1, b2, b3, b4⟩, -⟩ := (HB.out.2.1.below hx (by omega)).all
        exact ⟨⟨a1, a2, a3, a4, b0, b1, b2, b3, b4⟩, hx⟩
      clear a0 a1 a2 a3 a4 b0 b1 b2 b3 b4 r0 r1 r2 r3 r4 f0 f1 f2 f3 f4
      go_region_held3 (fun x => (x.cell? ⟨w.heap.size, 1, none⟩ = some (.int .u64 fa0) ∧ x.cell? ⟨w.heap.size, 2, none⟩ = some (.int .u64 fa1) ∧ x.cell? ⟨w.heap.size, 3, none⟩ = some (.int .u64 fa2) ∧ x.cell? ⟨w.heap.size, 4, none⟩ = some (.int .u64 fa3) ∧ x.cell? ⟨w.heap.size + 1, 0, none⟩ = some (.bool nb) ∧ x.cell? ⟨w.heap.size + 1, 1, none⟩ = some (.int .u64 fb0) ∧ x.cell? ⟨w.heap.size + 1, 2, none⟩ = some (.int .u64 fb1) ∧ x.cell? ⟨w.heap.size + 1, 3, none⟩ = some (.int .u64 fb2) ∧ x.cell? ⟨w.heap.size + 1, 4, none⟩ = some (.int .u64 fb3)) ∧ Below (w.heap.size + 1 + 1) w1 x)
        (first | (with_reducible exact KEEP.out _ hV0) | (with_reducible exact KEEP.out _ hV1) | (with_reducible exact KEEP.out _ hV2) | (with_reducible exact KEEP.out _ hW3))
        (first
        | (go_at_call 19; (with_reducible refine (KJ.out _ _ _ HSW.out).mono ?_); (rintro e w2 ⟨rfl, hb2⟩); (with_reducible have hW2 := hW1.trans (hb2.mono hW1.size)); (have hB2 := HB.out.go hW2); (have hV2 := hW2.mono hlr); (have hW3 := belowG hV2 (Nat.le_refl _) (.bool nb) (.int .u64 j0) (.int .u64 j1) (.int .u64 j2) (.int .u64 j3)); (obtain ⟨⟨s0, s1, s2, s3, s4⟩, g0, g1, g2, g3, g4⟩ := hB2.2.2.1.all); (simp only [Ws.nil] at s0 s1 s2 s3 s4))
        | fail)
      all_goals
        go_wp2
        exact ret_bg (hB2.2.2.1.put nb j0 j1 j2 j3) Try.results40 rfl rfl ⟨rfl, belowG hB2.2.2.2 (by omega) _ _ _ _ _⟩
end Go.Proofs.Ythnecifdgoeenaa
/- rex.Word. -/
namespace Go.Proofs.Ythnecifdgoeenaa
open Go.RowKit
def byteR (c : UInt8) : Rx := ofR (ofN (natsOf [c]))
def wordL (s : ByteArray) : List Rx := s.data.toList.map byteR
def wordInv (s : ByteArray) (w : World) (y : Value) (wr : World) : Prop := ∃ i : Nat, i ≤ s.size ∧ y = .int .i64 i ∧ wr.heap[w.heap.size]? = some nilBlk ∧ Room wr (w.heap.size + 1) (s.size * 6) ∧
  NodesAt (New (w.heap.size + 2)) wr (w.heap.size + 1) 0 ((wordL s).take i) ∧ Below w.heap.size w wr
theorem pass2 {n0 : Nat} {w wr w1 : World} {r : Rx} {x0 x1 x2 x3 x4 x5 : Value} (hn : wr.heap[n0]? = some nilBlk) (hb : Below n0 w wr) (hv : ReAt (New wr.heap.size) w1 (.agg #[x0, x1, x2, x3, x4, x5]) r) (hb1 : Below wr.heap.size wr w1) :
    w1.heap[n0]? = some nilBlk ∧ (putW w1 n0 x0 x1 x2 x3 x4 x5).heap[n0]? = some (.cells #[x0, x1, x2, x3, x4, x5] 30) ∧
    ReAt (New n0) (putW w1 n0 x0 x1 x2 x3 x4 x5) (.agg #[x0, x1, x2, x3, x4, x5]) r ∧ Below n0 w (putW w1 n0 x0 x1 x2 x3 x4 x5) := by
  have hlt : n0 < wr.heap.size := (Array.getElem?_eq_some_iff.1 hn).1
  have hn1 : w1.heap[n0]? = some nilBlk := (hb1.block _ hlt).trans hn
  refine ⟨hn1, putR hn1 _ _ _ _ _ _, ?_, putB (hb.trans (hb1.mono (by omega))) (Nat.le_refl _) _ _ _ _ _ _⟩
  refine hv.go ⟨by rw [putW_size]; exact Nat.le_refl _, fun b _ h => ?_⟩
  unfold New at h
  exact ⟨by unfold New; omega, putW_other _ _ _ _ _ _ _ _ (by omega)⟩
theorem leaf_of {ok ok' : Nat → Prop} {w : World} {v : Value} {s : Ws} (h : ReAt ok w v (ofR s)) : ReAt ok' w v (ofR s) := by
  unfold ofR at h ⊢
  split at h <;> (rename_i e; simp only [e]; exact leaf_any w h)
theorem bytes_one (w : World) (c : UInt8) (o : Obj) (ho : o = .cells #[.int .u8 c.toNat] 5) : BytesAt (w.alloc o) (some ⟨w.heap.size, 0, none⟩) [c] := by
  subst ho
  refine ⟨by simp [maxLen], .inr ⟨_, _, rfl, by simp, fun i h => ?_⟩⟩
  obtain rfl : i = 0 := by simpa using h
  rw [Lib.cell_of_heap (blk_new w _)]; rfl
theorem wordL_take (s : ByteArray) (i : Nat) (h : i < s.size) : (wordL s).take (i + 1) = (wordL s).take i ++ [byteR s[i]] := by
  have h' : i < (wordL s).length := by simpa [wordL] using h
  rw [List.take_succ_eq_append_getElem h']
  simp [wordL]; rfl
end Go.Proofs.Ythnecifdgoeenaa
/- rex.Same. -/
namespace Go.Proofs.Ythnecifdgoeenaa
open Go.RowKit
def equalInv (ks ks' : List Rx) (w : World) (y : Value) (wr : World) : Prop := ∃ i : Nat, i ≤ ks.length ∧ y = .int .i64 i ∧ (∀ j (h1 : j < ks.length) (h2 : j < ks'.length), j < i → sameR ks[j] ks'[j] = true) ∧ Below w.heap.size w wr
end Go.Proofs.Ythnecifdgoeenaa
/- rex.May: nodes that are counted down through a pointer. -/
namespace Go.Proofs.Ythnecifdgoeenaa
open Go.RowKit
/-- Below B all is as it was, but for one block. -/
structure But (g B : Nat) (w w' : World) : Prop where
  os : w'.os = w.os
  tape : w'.tape = w.tape
  output : w'.output = w.output
  size : w.heap.size ≤ w'.heap.size
  block : ∀ k, k < B → k ≠ g → w'.heap[k]? = w.heap[k]?
theorem But.refl (g B : Nat) (w : World) : But g B w w := ⟨rfl, rfl, rfl, Nat.le_refl _, fun _ _ _ => rfl⟩
theorem But.trans {g B : Nat} {a b c : World} (h : But g B a b) (k : But g B b c) : But g B a c :=
  ⟨k.os.trans h.os, k.tape.trans h.tape, k.output.trans h.output, Nat.le_trans h.size k.size, fun i hi hg => (k.block i hi hg).trans (h.block i hi hg)⟩
theorem But.mono {g B B' : Nat} {w w' : World} (h : But g B w w') (hB : B' ≤ B) : But g B' w w' := ⟨h.os, h.tape, h.output, h.size, fun k hk hg => h.block k (Nat.lt_of_lt_of_le hk hB) hg⟩
theorem But.of {g B : Nat} {w w' : World} (h : Below B w w') : But g B w w' := ⟨h.os, h.tape, h.output, h.size, fun k hk _ => h.block k hk⟩
theorem But.below {g B : Nat} {w w' : World} (h : But g B w w') (hB : B ≤ g) : Below B w w' := ⟨h.os, h.tape, h.output, h.size, fun k hk => h.block k hk (by omega)⟩
theorem But.set {g B : Nat} {w w' : World} (h : But g B w w') (o : Nat) (v : Value) : But g B w (w'.setCell ⟨g, o, none⟩ v) :=
  h.trans ⟨rfl, rfl, rfl, by simp [World.setCell], fun k _ hg => Below.heap_setCell _ _ _ _ hg⟩
theorem But.kept {g : Nat} {w w' : World} {ok : Nat → Prop} (h : But g w.heap.size w w') (hok : ∀ b, ok b → b ≠ g) : Kept ok ok w w' := ⟨h.size, fun b h1 h2 => ⟨h2, h.block b h1 (hok b h2)⟩⟩
/-- The counter's block. -/
def Left (w : World) (g : Nat) (z : Int) : Prop := w.heap[g]? = some (.cells #[.int .i64 z] 3)
theorem Left.cells {w : World} {g : Nat} {z : Int} (h : Left w g z) : w.cell? ⟨g, 0, none⟩ = some (.int .i64 z) ∧ w.frozen? ⟨g, 0, none⟩ = false := by
  unfold Left at h
  exact ⟨by rw [Lib.cell_of_heap h]; rfl, Lib.frozen_of_heap h 0⟩
theorem Left.lt {w : World} {g : Nat} {z : Int} (h : Left w g z) : g < w.heap.size := (Array.getElem?_eq_some_iff.1 h).1
theorem Left.set {w : World} {g : Nat} {z : Int} (h : Left w g z) (y : Int) : Left (w.setCell ⟨g, 0, none⟩ (.int .i64 y)) g y := by
  unfold Left at h ⊢
  simp [World.setCell, Array.getElem?_modify, h]
def MayPost (q : Bool) (n m g : Nat) (w : World) (e : Ending) (w' : World) : Prop := e = .returned (.bool q) ∧ (∃ z : Int, Left w' g z ∧ (q = true → z = (n : Int) - m)) ∧ But g w.heap.size w w'
def MayAt (ok : Nat → Prop) (g N : Nat) : Prop := ∀ (r : Rx), r.size ≤ N → ∀ (n : Nat) (v : Value) (w : World), n ≤ 2000 → Left w g n → ReAt ok w v r →
    Calls Try.prog 39 #[v, .pointer (some ⟨g, 0, none⟩)] w (MayPost (mayN r n) n r.size g w)
def PtrAt (w : World) (gb g : Nat) : Prop := w.heap[gb]? = some (.cells #[.pointer (some ⟨g, 0, none⟩)] 59)
theorem PtrAt.cell {w : World} {gb g : Nat} (h : PtrAt w gb g) : w.cell? ⟨gb, 0, none⟩ = some (.pointer (some ⟨g, 0, none⟩)) := by
  unfold PtrAt at h
  rw [Lib.cell_of_heap h]; rfl
theorem PtrAt.lt {w : World} {gb g : Nat} (h : PtrAt w gb g) : gb < w.heap.size := (Array.getElem?_eq_some_iff.1 h).1
set_option maxHeartbeats 1000000 in
theorem closure_of {ok : Nat → Prop} {g N : Nat} (ih : MayAt ok g N) (r : Rx) (hr : r.size ≤ N) (n gb : Nat) (v : Value) (w : World) (hn : n ≤ 2000) (hL : Left w g n) (hP : PtrAt w gb g) (h : ReAt ok w v r) :
    Calls Try.prog 46 #[v, .pointer (some ⟨gb, 0, none⟩)] w (fun e w' => e = .returned (.bool (!mayN r n)) ∧ (∃ z : Int, Left w' g z ∧ (mayN r n = true → z = (n : Int) - r.size)) ∧ But g w.heap.size w w') := by
  have K := Lib.hid fun W (hb : Below w.heap.size w W) => ih r hr n v W hn ((hb.block _ hL.lt).trans hL) (h.below hb)
  obtain ⟨x0, x1, x2, x3, x4, bl, n', cp, rfl⟩ := cells_re h
  have c := hP.cell
  have hlt := hP.lt
  clear ih h hL hP
  generalize mayN r n = q at *
  go_enter Try.func46, Try.ntmps46
  go_wp2_with fail
  refine (K.out _ ((Below.refl _ w).alloc (Nat.le_refl _) _)).mono ?_
  rintro e w1 ⟨rfl, hz, hb⟩
  have HZ := Lib.hid hz
  have HB : But g w.heap.size w w1 := (But.of ((Below.refl _ w).alloc (Nat.le_refl _) _)).trans (hb.mono (by simp))
  clear hz hb
  go_wp2
  go_ret
  exact ⟨rfl, HZ.out, HB⟩
end Go.Proofs.Ythnecifdgoeenaa
/- rex.May: the walk over the kids, and the whole. -/
namespace Go.Proofs.Ythnecifdgoeenaa
open Go.RowKit
def idxInv (l : List Rx) (n g gb : Nat) (w : World) (y : Value) (wr : World) : Prop := ∃ i m : Nat, i ≤ l.length ∧ y = .int .i64 i ∧ mayNs (l.take i) n = true ∧ m = n - Rx.sizes (l.take i) ∧ Left wr g m ∧ PtrAt wr gb g ∧ But g w.heap.size w wr
def IdxPost (q : Bool) (n m g : Nat) (w : World) (e : Ending) (w' : World) : Prop := ∃ x : Int, decide (0 ≤ x) = !q ∧ e = .returned (.int .i64 x) ∧ (∃ z : Int, Left w' g z ∧ (q = true → z = (n : Int) - m)) ∧ But g w.heap.size w w'
theorem mayNs_le {l : List Rx} {n : Nat} (h : mayNs l n = true) : Rx.sizes l ≤ n := by
  simp [mayNs] at h; omega
set_option maxHeartbeats 4000000 in
theorem index_of {ok : Nat → Prop} {g N : Nat} (hok : ∀ b, ok b → b ≠ g) (ih : MayAt ok g N) (l : List Rx) (hN : Rx.sizes l ≤ N) (n gb : Nat) (al : Option Addr) (cap : Nat) (w : World) (hn : n ≤ 2000) (hl : l.length < 2199023255552) (hgb : gb ≠ g) (hL : Left w g n) (hP : PtrAt w gb g) (hR : RowAt ok w al l) :
    Calls Try.prog 37 #[.slice al l.length cap, .func (.func 46) #[] #[.pointer (some ⟨gb, 0, none⟩)]] w (IdxPost (mayNs l n) n (Rx.sizes l) g w) := by
  have HI := Lib.hid ih
  have HR := Lib.hid hR
  have HL := Lib.hid hL
  have HP := Lib.hid hP
  clear ih hR hL hP
  go_enter Try.func37, Try.ntmps37
  go_wp2
  go_loopw [8] (fun y wr => idxInv l n g gb w y wr) (fun y _ => l.length - (intOf y).toNat)
  case atStart => exact ⟨0, n, Nat.zero_le _, rfl, by simp [mayNs, goodRs, Rx.sizes], by simp [Rx.sizes], HL.out, HP.out, But.refl _ _ _⟩
  case round =>
    obtain ⟨i, m, hi, rfl, hmay, hm, hleft, hptr, hb⟩ := hrel
    have HM := Lib.hid hm
    have HY := Lib.hid hmay
    have HLe := Lib.hid hleft
    have HPt := Lib.hid hptr
    have hmn : m ≤ 2000 := by omega
    clear hm hmay hleft hptr HL HP
    by_cases hlt : i < l.length
    · obtain ⟨b, off, hab, hblt, hbok, hnode⟩ := HR.out.kidOk hlt
      subst hab
      have hkid := NodeAt.go (hb.kept hok) _ (hb.block b hblt (hok b hbok)) hnode
      have hkz := size_kid hlt
      have HS1 := fun h => mayNs_step (n := n) hlt HY.out h
      have HS2 := fun h => mayNs_stop (n := n) hlt HY.out h
      have htk := sizes_take l i hlt
      rw [← HM.out] at HS1 HS2
      have hsm : mayN l[i] m = true → l[i].size ≤ m := fun h => by simp [mayN] at h; omega
      clear hnode
      generalize l[i] = kid at *
      obtain ⟨k', ⟨ta, tb, tc, td⟩, ks'⟩ := kid
      obtain ⟨al', cap', ⟨c0, c1, c2, c3, c4, c5⟩, hre⟩ := hkid.read
      simp only at c0 c1 c2 c3 c4 c5
      have K := Lib.hid (closure_of HI.out _ (Nat.le_trans hkz hN) m gb _ wr hmn HLe.out HPt.out hre)
      generalize (Rx.node k' ⟨ta, tb, tc, td⟩ ks').size = z at *
      generalize mayN (Rx.node k' ⟨ta, tb, tc, td⟩ ks') m = q at *
      have T1 := Lib.hid HS1
      have T2 := Lib.hid HS2
      have T3 := Lib.hid htk
      have T4 := Lib.hid hsm
      clear hkid hre HS1 HS2 htk hsm
      have q1 : (i : Int) < (l.length : Int) := by omega
      go_wp2_with fail
      refine K.out.mono ?_
      rintro e w1 ⟨rfl, ⟨x, hx, hxz⟩, hb1⟩
      have HX := Lib.hid hx
      have HXZ := Lib.hid hxz
      have HP1 := Lib.hid (show PtrAt w1 gb g from (hb1.block _ HPt.out.lt hgb).trans HPt.out)
      replace hb := hb.trans (hb1.mono hb.size)
      clear hx hxz hb1 c0 c1 c2 c3 c4 c5
      cases q with
      | true =>
        go_wp2
        refine ⟨⟨i + 1, m - z, by omega, by go_num, T1.out trivial, ?_, ?_, HP1.out, hb⟩, by simp [intOf]; omega⟩
        · have := T3.out; have := HM.out; omega
        · have h := HX.out
          rw [HXZ.out trivial] at h
          have := T4.out trivial
          rw [show ((m - z : Nat) : Int) = (m : Int) - z from by omega]
          exact h
      | false =>
        go_wp2
        go_ret
        refine ⟨i, ?_, rfl, ⟨x, HX.out, fun h => ?_⟩, hb⟩
        · rw [T2.out trivial]; simp
        · rw [T2.out trivial] at h; cases h
    · have he : l.take i = l := List.take_of_length_le (by omega)
      rw [he] at HY HM
      go_wp2
      go_ret
      refine ⟨-1, ?_, rfl, ⟨m, HLe.out, fun _ => ?_⟩, hb⟩
      · rw [HY.out]; rfl
      · have := HM.out; have := mayNs_le HY.out; omega
theorem contains_of {ok : Nat → Prop} {g N : Nat} (hok : ∀ b, ok b → b ≠ g) (ih : MayAt ok g N) (l : List Rx) (hN : Rx.sizes l ≤ N) (n gb : Nat) (al : Option Addr) (cap : Nat) (w : World) (hn : n ≤ 2000) (hl : l.length < 2199023255552) (hgb : gb ≠ g) (hL : Left w g n) (hP : PtrAt w gb g) (hR : RowAt ok w al l) :
    Calls Try.prog 24 #[.slice al l.length cap, .func (.func 46) #[] #[.pointer (some ⟨gb, 0, none⟩)]] w fun e w' => e = .returned (.bool (!mayNs l n)) ∧ (∃ z : Int, Left w' g z ∧ (mayNs l n = true → z = (n : Int) - Rx.sizes l)) ∧ But g w.heap.size w w' := by
  have K := Lib.hid (index_of hok ih l hN n gb al cap w hn hl hgb hL hP hR)
  clear ih hL hP hR
  generalize mayNs l n = q at *
  go_enter Try.func24, Try.ntmps24
  go_wp2_with fail
  refine K.out.mono ?_
  rintro e w1 ⟨x, hx, rfl, hz, hb⟩
  have HX := Lib.hid hx
  have HZ := Lib.hid hz
  clear hx hz
  go_wp2
  go_ret
  exact ⟨by rw [← HX.out]; rfl, HZ.out, hb⟩
theorem mayN_node (k : Nat) (s : Ws) (ks : List Rx) (n : Nat) : mayN (.node k s ks) n = (decide (0 < n) && (nodeGood k ks.length (bareB s) && mayNs ks (n - 1))) := by
  unfold mayN mayNs goodR Rx.size
  by_cases h : 0 < n
  · have e : decide (1 + Rx.sizes ks ≤ n) = decide (Rx.sizes ks ≤ n - 1) := by rw [decide_eq_decide]; omega
    rw [e]; simp [h, Bool.and_assoc]
  · have e : decide (1 + Rx.sizes ks ≤ n) = false := by simp; omega
    rw [e]; simp [h]
def mayW (w : World) (g : Nat) (z : Int) (o : Obj) : World := ((w.setCell ⟨g, 0, none⟩ (.int .i64 z)).alloc o).alloc (.cells #[.pointer (some ⟨g, 0, none⟩)] 59)
theorem mayW_facts {w : World} {g : Nat} {y : Int} (h : Left w g y) (z : Int) (o : Obj) :
    Left (mayW w g z o) g z ∧ PtrAt (mayW w g z o) (w.heap.size + 1) g ∧ (mayW w g z o).heap[w.heap.size]? = some o ∧ But g w.heap.size w (mayW w g z o) ∧ (mayW w g z o).heap.size = w.heap.size + 2 := by
  have hg := h.lt
  have hs : (w.setCell ⟨g, 0, none⟩ (.int .i64 z)).heap.size = w.heap.size := by simp [World.setCell]
  refine ⟨(Below.heap_alloc _ _ _ (by rw [World.size_alloc, hs]; omega)).trans ((Below.heap_alloc _ _ _ (by rw [hs]; exact hg)).trans (h.set z)), blk_at _ _ (by rw [World.size_alloc, hs]), (Below.heap_alloc _ _ _ (by rw [World.size_alloc, hs]; omega)).trans (blk_at _ _ hs.symm), ?_, ?_⟩
  · exact ((But.refl g w.heap.size w).set 0 _).trans (But.of (((Below.refl _ _).alloc (by rw [hs]; exact Nat.le_refl _) _).alloc (by rw [World.size_alloc, hs]; omega) _))
  · unfold mayW; rw [World.size_alloc, World.size_alloc, hs]
set_option maxHeartbeats 4000000 in
theorem nodesMay_all {ok : Nat → Prop} {g : Nat} (hok : ∀ b, ok b → b ≠ g) (N : Nat) : MayAt ok g N := by
  induction N with
  | zero => intro r h; have := r.size_pos; omega
  | succ N ih =>
    rintro ⟨k, s, ks⟩ hN n v w hn hL hR
    obtain ⟨hk, hs, al, cap, rfl, hcap, hmax, hrow⟩ := hR
    have hN' : Rx.sizes ks ≤ N := by simp [Rx.size] at hN; omega
    rw [mayN_node]
    have hg := hL.lt
    obtain ⟨c, f⟩ := hL.cells
    have HL := Lib.hid hL
    have KB := Lib.hid fun W => nodeMay_any k s ks.length al cap W hk hmax
    have KC := Lib.hid fun (m gb : Nat) (W : World) (hm : m ≤ 2000) (hgb : gb ≠ g) (hL : Left W g m) (hP : PtrAt W gb g) (hb : But g w.heap.size w W) => contains_of hok ih ks hN' m gb al cap W hm hmax hgb hL hP (hrow.go (hb.kept hok))
    generalize nodeGood k ks.length (bareB s) = q at *
    obtain ⟨sa, sb, sc, sd⟩ := s
    have HSZ := Lib.hid (show (Rx.node k ⟨sa, sb, sc, sd⟩ ks).size = 1 + Rx.sizes ks from by simp [Rx.size])
    clear ih hrow hN hL
    simp only at KB
    go_enter Try.func39, Try.ntmps39
    by_cases hn0 : n = 0
    · subst hn0
      obtain ⟨m1, m2, m3, m4, m5⟩ := mayW_facts HL.out (-1) (.cells #[.int .u8 k, .int .u64 sa, .int .u64 sb, .int .u64 sc, .int .u64 sd, .slice al ks.length cap] 30)
      unfold mayW at m1 m4
      have M1 := Lib.hid m1
      have M4 := Lib.hid m4
      clear m1 m2 m3 m4 m5
      go_wp2
      go_ret
      exact ⟨by simp, ⟨-1, M1.out, fun h => by simp at h⟩, M4.out⟩
    · have d1 : decide ((n : Int) - 1 < 0) = false := by simp; omega
      have d2 : decide (0 < n) = true := by simp; omega
      have D2 := Lib.hid d2
      obtain ⟨m1, m2, m3, m4, m5⟩ := mayW_facts HL.out ((n : Int) - 1) (.cells #[.int .u8 k, .int .u64 sa, .int .u64 sb, .int .u64 sc, .int .u64 sd, .slice al ks.length cap] 30)
      have M1 := Lib.hid m1
      have M2 := Lib.hid m2
      have M3 := Lib.hid m3
      have M4 := Lib.hid m4
      have M5 := Lib.hid m5
      clear m1 m2 m3 m4 m5 d2
      go_wp2_with fail
      refine (KB.out _).mono ?_
      rintro e w1 ⟨rfl, hb1⟩
      change Below (mayW w g ((n : Int) - 1) (.cells #[.int .u8 k, .int .u64 sa, .int .u64 sb, .int .u64 sc, .int .u64 sd, .slice al ks.length cap] 30)).heap.size (mayW w g ((n : Int) - 1) (.cells #[.int .u8 k, .int .u64 sa, .int .u64 sb, .int .u64 sc, .int .u64 sd, .slice al ks.length cap] 30)) w1 at hb1
      generalize mayW w g ((n : Int) - 1) (.cells #[.int .u8 k, .int .u64 sa, .int .u64 sb, .int .u64 sc, .int .u64 sd, .slice al ks.length cap] 30) = W at *
      have hz := M5.out
      have n1 : Left w1 g ((n : Int) - 1) := (hb1.block _ (by omega)).trans M1.out
      have n2 : PtrAt w1 (w.heap.size + 1) g := (hb1.block _ (by omega)).trans M2.out
      have n3 := (hb1.block w.heap.size (by omega)).trans M3.out
      have n4 : But g w.heap.size w w1 := M4.out.trans (But.of (hb1.mono (by omega)))
      obtain ⟨g0, g1, g2, g3, g4, g5, p0, p1, p2, p3, p4, p5⟩ := cellsR n3
      have N1 := Lib.hid n1
      have N2 := Lib.hid n2
      have N4 := Lib.hid n4
      clear n1 n2 n3 n4 hb1 hz
      cases q with
      | false =>
        go_wp2
        go_ret
        exact ⟨by simp, ⟨(n : Int) - 1, N1.out, fun h => by simp at h⟩, N4.out⟩
      | true =>
        have e1 : ((n - 1 : Nat) : Int) = (n : Int) - 1 := by omega
        have K := Lib.hid (KC.out (n - 1) (w.heap.size + 1) w1 (by omega) (by omega) (by rw [e1]; exact N1.out) N2.out N4.out)
        clear e1
        generalize mayNs ks (n - 1) = q at *
        go_wp2_with fail
        refine K.out.mono ?_
        rintro e w2 ⟨rfl, ⟨z, hz, hzz⟩, hb2⟩
        have HZ := Lib.hid hz
        have HZZ := Lib.hid hzz
        have hb3 : But g w.heap.size w w2 := N4.out.trans (hb2.mono N4.out.size)
        clear hz hzz hb2
        go_wp2
        go_ret
        refine ⟨by rw [D2.out]; simp, ⟨z, HZ.out, fun h => ?_⟩, hb3⟩
        rw [D2.out] at h
        have := HZZ.out (by simpa using h)
        rw [this, HSZ.out]; omega
end Go.Proofs.Ythnecifdgoeenaa
/- rex.May of several; the document's example. -/
namespace Go.Proofs.Ythnecifdgoeenaa
open Go.RowKit
set_option maxHeartbeats 1000000 in
theorem mayClosure_any {ok : Nat → Prop} (r : Rx) (v : Value) (w : World) (h : ReAt ok w v r) :
    Calls Try.prog 38 #[v] w fun e w' => e = .returned (.bool (!mayR r)) ∧ Below w.heap.size w w' := by
  have h' : ReAt (fun b => b < w.heap.size) w v r := h.imp fun b hb _ => hb
  have K := Lib.hid fun W (hb : Below w.heap.size w W) (hL : Left W (w.heap.size + 1) (2000 : Nat)) => nodesMay_all (ok := fun b => b < w.heap.size) (g := w.heap.size + 1) (fun b hb => by omega) r.size r (Nat.le_refl _) 2000 v W (Nat.le_refl _) hL (h'.below hb)
  obtain ⟨x0, x1, x2, x3, x4, bl, n', cp, rfl⟩ := cells_re h
  clear h h'
  have hm : mayR r = mayN r 2000 := rfl
  rw [hm]
  generalize mayN r 2000 = q at *
  go_enter Try.func38, Try.ntmps38
  go_wp2_with fail
  refine (K.out _ (((Below.refl _ w).alloc (Nat.le_refl _) _).alloc (by simp) _) (blk_at _ _ (by simp))).mono ?_
  rintro e w1 ⟨rfl, -, hb⟩
  have hbw : Below w.heap.size w w1 := (((Below.refl _ w).alloc (Nat.le_refl _) _).alloc (by simp) _).trans ((hb.mono (by simp; omega)).below (by omega))
  clear hb
  go_wp2
  go_ret
  exact ⟨rfl, hbw⟩
def idxInv2 (l : List Rx) (w : World) (y : Value) (wr : World) : Prop := ∃ i : Nat, i ≤ l.length ∧ y = .int .i64 i ∧ (l.take i).all mayR = true ∧ Below w.heap.size w wr
def IdxPost2 (q : Bool) (w : World) (e : Ending) (w' : World) : Prop := ∃ x : Int, decide (0 ≤ x) = !q ∧ e = .returned (.int .i64 x) ∧ Below w.heap.size w w'
set_option maxHeartbeats 4000000 in
theorem index_any {ok : Nat → Prop} (l : List Rx) (al : Option Addr) (cap : Nat) (w : World) (hl : l.length < 2199023255552) (hR : RowAt ok w al l) :
    Calls Try.prog 37 #[.slice al l.length cap, .func (.func 38) #[] #[]] w (IdxPost2 (l.all mayR) w) := by
  have HR := Lib.hid hR
  clear hR
  go_enter Try.func37, Try.ntmps37
  go_wp2
  go_loopw [8] (fun y wr => idxInv2 l w y wr) (fun y _ => l.length - (intOf y).toNat)
  case atStart => exact ⟨0, Nat.zero_le _, rfl, by simp, Below.refl _ _⟩
  case round =>
    obtain ⟨i, hi, rfl, hmay, hb⟩ := hrel
    have HY := Lib.hid hmay
    clear hmay
    by_cases hlt : i < l.length
    · obtain ⟨b, off, hab, hblt, hnode⟩ := HR.out.kid hlt
      subst hab
      have hkid := NodeAt.below hb _ hblt hnode
      have htk : (l.take (i + 1)).all mayR = ((l.take i).all mayR && mayR l[i]) := by
        rw [List.take_succ_eq_append_getElem hlt, List.all_append]; simp
      have hno : mayR l[i] = false → l.all mayR = false := fun h => by
        rw [List.all_eq_false]; exact ⟨l[i], List.getElem_mem hlt, by rw [h]; simp⟩
      clear hnode
      generalize l[i] = kid at *
      obtain ⟨k', ⟨ta, tb, tc, td⟩, ks'⟩ := kid
      obtain ⟨al', cap', ⟨c0, c1, c2, c3, c4, c5⟩, hre⟩ := hkid.read
      simp only at c0 c1 c2 c3 c4 c5
      have K := Lib.hid (mayClosure_any _ _ wr hre)
      generalize mayR (Rx.node k' ⟨ta, tb, tc, td⟩ ks') = q at *
      have T1 := Lib.hid htk
      have T2 := Lib.hid hno
      clear hkid hre htk hno
      have q1 : (i : Int) < (l.length : Int) := by omega
      go_wp2_with fail
      refine K.out.mono ?_
      rintro e w1 ⟨rfl, hb1⟩
      replace hb := hb.trans (hb1.mono hb.size)
      clear hb1 c0 c1 c2 c3 c4 c5
      cases q with
      | true =>
        go_wp2
        exact ⟨⟨i + 1, by omega, by go_num, by rw [T1.out, HY.out]; rfl, hb⟩, by simp [intOf]; omega⟩
      | false =>
        go_wp2
        go_ret
        exact ⟨i, by rw [T2.out trivial]; simp, rfl, hb⟩
    · have he : l.take i = l := List.take_of_length_le (by omega)
      rw [he] at HY
      go_wp2
      go_ret
      exact ⟨-1, by rw [HY.out]; rfl, rfl, hb⟩
theorem contains_any {ok : Nat → Prop} (l : List Rx) (al : Option Addr) (cap : Nat) (w : World) (hl : l.length < 2199023255552) (hR : RowAt ok w al l) :
    Calls Try.prog 24 #[.slice al l.length cap, .func (.func 38) #[] #[]] w fun e w' => e = .returned (.bool (!l.all mayR)) ∧ Below w.heap.size w w' := by
  have K := Lib.hid (index_any l al cap w hl hR)
  clear hR
  generalize l.all mayR = q at *
  go_enter Try.func24, Try.ntmps24
  go_wp2_with fail
  refine K.out.mono ?_
  rintro e w1 ⟨x, hx, rfl, hb⟩
  have HX := Lib.hid hx
  clear hx
  go_wp2
  go_ret
  exact ⟨by rw [← HX.out]; rfl, hb⟩
theorem mayX {ok : Nat → Prop} (l : List Rx) (al : Option Addr) (cap : Nat) (w : World) (hl : l.length < 2199023255552) (hR : RowAt ok w al l) :
    Calls Try.prog 26 #[.slice al l.length cap] w fun e w' => e = .returned (.bool (l.all mayR)) ∧ Below w.heap.size w w' := by
  have K := Lib.hid (contains_any l al cap w hl hR)
  clear hR
  generalize l.all mayR = q at *
  go_enter Try.func26, Try.ntmps26
  go_wp2_with fail
  refine K.out.mono ?_
  rintro e w1 ⟨rfl, hb⟩
  go_wp2
  go_ret
  exact ⟨by simp, hb⟩
theorem size_byteR (c : UInt8) : (byteR c).size = 1 := by unfold byteR ofR; split <;> simp [Rx.size, Rx.sizes]
theorem good_ofR (s : Ws) : goodR (ofR s) = true := by
  unfold ofR
  by_cases h : sameW s Ws.nil = true
  · rw [if_pos h]
    have : bareB Ws.nil = true := sameW_iff.2 rfl
    simp [goodR, goodRs, nodeGood, this]
  · rw [if_neg h]
    have : bareB s = false := by simpa [bareB] using h
    simp [goodR, goodRs, nodeGood, this]
theorem size_foldR (k o : Nat) : ∀ (l : List Rx), l ≠ [] → (foldR k o l).size + 1 = Rx.sizes l + l.length
  | [], h => absurd rfl h
  | [r], _ => by simp [foldR, Rx.sizes]
  | r :: r' :: rs, _ => by
    have ih := size_foldR k o (r' :: rs) (by simp)
    simp only [foldR, Rx.size, Rx.sizes, List.length_cons] at ih ⊢
    omega
theorem good_foldR : ∀ (l : List Rx), l ≠ [] → goodRs l = true → goodR (foldR 4 2 l) = true
  | [], h, _ => absurd rfl h
  | [r], _, hg => by simpa [foldR, goodRs] using hg
  | r :: r' :: rs, _, hg => by
    have hb : bareB Ws.nil = true := sameW_iff.2 rfl
    simp only [goodRs, Bool.and_eq_true] at hg
    have ih := good_foldR (r' :: rs) (by simp) (by simp [goodRs, hg])
    simp [foldR, goodR, goodRs, nodeGood, hb, hg, ih]
theorem sizes_wordL (s : ByteArray) : Rx.sizes (wordL s) = s.size := by
  have : ∀ l : List UInt8, Rx.sizes (l.map byteR) = l.length := fun l => by
    induction l with
    | nil => simp [Rx.sizes]
    | cons c t ih => simp [Rx.sizes, ih, size_byteR]; omega
  rw [wordL, this]; simp
theorem good_wordL (s : ByteArray) : goodRs (wordL s) = true := by
  have : ∀ l : List UInt8, goodRs (l.map byteR) = true := fun l => by
    induction l with
    | nil => simp [goodRs]
    | cons c t ih => simp [goodRs, ih, byteR, good_ofR]
  exact this _
theorem length_wordL (s : ByteArray) : (wordL s).length = s.size := by simp [wordL]
theorem word_size (s : ByteArray) (h : 0 < s.size) : (foldR 4 2 (wordL s)).size = 2 * s.size - 1 := by
  have hne : wordL s ≠ [] := fun e => by have := length_wordL s; rw [e] at this; simp at this; omega
  have := size_foldR 4 2 (wordL s) hne
  rw [sizes_wordL, length_wordL] at this
  omega
theorem word_good (s : ByteArray) (h : 0 < s.size) : goodR (foldR 4 2 (wordL s)) = true := by
  have hne : wordL s ≠ [] := fun e => by have := length_wordL s; rw [e] at this; simp at this; omega
  exact good_foldR _ hne (good_wordL s)
theorem row_new {w : World} {ok : Nat → Prop} {x0 x1 x2 x3 x4 x5 : Value} {r : Rx} (h : ReAt ok w (.agg #[x0, x1, x2, x3, x4, x5]) r) : RowAt (fun _ => True) (w.alloc (.cells #[x0, x1, x2, x3, x4, x5] 30)) (some ⟨w.heap.size, 0, none⟩) [r] :=
  row_one (blk_new w _) trivial ((h.below ((Below.refl _ w).alloc (Nat.le_refl _) _)).imp fun _ _ _ => trivial)
end Go.Proofs.Ythnecifdgoeenaa
/- quillref03's Fold. -/
namespace Go.Proofs.Ythnecifdgoeenaa
open Go.RowKit
def Low (ok : Nat → Prop) (n b : Nat) : Prop := (ok b ∧ b < n) ∨ n + 1 ≤ b
theorem nodes_tail {ok : Nat → Prop} {w : World} {b off : Nat} {r : Rx} {rs : List Rx} (h : NodesAt ok w b off (r :: rs)) : NodesAt ok w b (off + 6) rs := by
  unfold NodesAt at h; exact h.2
theorem fold_kept {w W w' : World} {ok : Nat → Prop} (hbW : Below w.heap.size w W) (hsW : W.heap.size = w.heap.size + 1) (hb2 : Below W.drew.heap.size W.drew w') : Kept ok (fun b => (ok b ∧ b < w.heap.size) ∨ W.drew.heap.size ≤ b) w w' := by
  have hb : Below w.heap.size w w' := hbW.drew.trans (hb2.mono (by show w.heap.size ≤ W.heap.size; omega))
  exact ⟨hb.size, fun b h1 h2 => ⟨.inl ⟨h2, h1⟩, hb.block b h1⟩⟩
theorem fold_le {w W : World} (hsW : W.heap.size = w.heap.size + 1) : w.heap.size ≤ W.drew.heap.size := by show w.heap.size ≤ W.heap.size; omega
theorem fold_nil {w W w' w'' : World} (hsW : W.heap.size = w.heap.size + 1) (hn : W.heap[w.heap.size]? = some nilBlk) (hb2 : Below W.drew.heap.size W.drew w') (hb3 : Below w'.heap.size w' w'') : w''.heap[w.heap.size]? = some nilBlk := by
  have h1 : w'.heap[w.heap.size]? = some nilBlk := (hb2.block _ (by show w.heap.size < W.heap.size; omega)).trans hn
  exact (hb3.block _ (Array.getElem?_eq_some_iff.1 h1).1).trans h1
abbrev FoldC (x : World) (b off : Nat) (x0 x1 x2 x3 x4 x5 : Value) : Prop := x.cell? ⟨b, off, none⟩ = some x0 ∧ x.cell? ⟨b, off + 1, none⟩ = some x1 ∧ x.cell? ⟨b, off + 2, none⟩ = some x2 ∧ x.cell? ⟨b, off + 3, none⟩ = some x3 ∧ x.cell? ⟨b, off + 4, none⟩ = some x4 ∧ x.cell? ⟨b, off + 5, none⟩ = some x5
theorem foldC_go {W x : World} {b off B : Nat} {x0 x1 x2 x3 x4 x5 : Value} (h : FoldC W b off x0 x1 x2 x3 x4 x5) (hb : b < B) (hx : Below B W x) : FoldC x b off x0 x1 x2 x3 x4 x5 := by
  obtain ⟨d0, d1, d2, d3, d4, d5⟩ := h
  have e := fun o => hx.cell (p := ⟨b, o, none⟩) hb
  exact ⟨by rw [e]; exact d0, by rw [e]; exact d1, by rw [e]; exact d2, by rw [e]; exact d3, by rw [e]; exact d4, by rw [e]; exact d5⟩
theorem fold_end {w W w' w'' : World} {ok : Nat → Prop} {r : Rx} {y0 y1 y2 y3 y4 y5 : Value} (hbW : Below w.heap.size w W) (hsW : W.heap.size = w.heap.size + 1) (hn : W.heap[w.heap.size]? = some nilBlk) (hb2 : Below W.drew.heap.size W.drew w') (hb3 : Below w'.heap.size w' w'')
    (hu : ReAt (fun b => ((ok b ∧ b < w.heap.size) ∨ W.drew.heap.size ≤ b) ∨ w'.heap.size ≤ b) w'' (.agg #[y0, y1, y2, y3, y4, y5]) r) :
    (putW w'' w.heap.size y0 y1 y2 y3 y4 y5).heap[w.heap.size]? = some (.cells #[y0, y1, y2, y3, y4, y5] 30) ∧
    ReAt (fun b => ok b ∨ w.heap.size ≤ b) (putW w'' w.heap.size y0 y1 y2 y3 y4 y5) (.agg #[y0, y1, y2, y3, y4, y5]) r ∧ Below w.heap.size w (putW w'' w.heap.size y0 y1 y2 y3 y4 y5) := by
  have h1 : W.heap.size ≤ w'.heap.size := hb2.size
  have h2 := hb3.size
  have hd : W.drew.heap.size = W.heap.size := rfl
  refine ⟨putR (fold_nil hsW hn hb2 hb3) _ _ _ _ _ _, hu.go ⟨by rw [putW_size]; exact Nat.le_refl _, fun b _ h => ?_⟩, putB (hbW.drew.trans ((hb2.mono (fold_le hsW)).trans (hb3.mono (by omega)))) (Nat.le_refl _) _ _ _ _ _ _⟩
  rw [hd] at h
  rcases h with (⟨h, hl⟩ | h) | h
  · exact ⟨.inl h, putW_other _ _ _ _ _ _ _ _ (by omega)⟩
  · exact ⟨.inr (by omega), putW_other _ _ _ _ _ _ _ _ (by omega)⟩
  · exact ⟨.inr (by omega), putW_other _ _ _ _ _ _ _ _ (by omega)⟩
end Go.Proofs.Ythnecifdgoeenaa
/- Rows of expressions that a call itself makes by append; quillref03's Word. -/
namespace Go.Proofs.Ythnecifdgoeenaa
open Go.RowKit
def rwInv (s : ByteArray) (w : World) (v y : Value) (wr : World) : Prop := ∃ (i : Nat) (xs : List Value), i ≤ s.size ∧ y = .int .i64 i ∧ wr.heap[w.heap.size]? = some nilBlk ∧ Below w.heap.size w wr ∧ wr.ownsRow (w.heap.size + 1) 30 6 v i xs ∧ RowVals None wr xs ((wordL s).take i)
end Go.Proofs.Ythnecifdgoeenaa
/- quillref03's All. -/
namespace Go.Proofs.Ythnecifdgoeenaa
open Go.RowKit
mutual
def allR : Rx → List Rx
  | .node k s ks => .node k s ks :: allRs ks
def allRs : List Rx → List Rx
  | [] => []
  | r :: rs => allR r ++ allRs rs
end
theorem allRs_append (a b : List Rx) : allRs (a ++ b) = allRs a ++ allRs b := by
  induction a with
  | nil => simp [allRs]
  | cons x t ih => simp [allRs, ih, List.append_assoc]
mutual
theorem allR_length : ∀ (r : Rx), (allR r).length = r.size
  | .node k s ks => by
    have := allRs_length ks
    simp [allR, Rx.size, this]; omega
theorem allRs_length : ∀ (l : List Rx), (allRs l).length = Rx.sizes l
  | [] => by simp [allRs, Rx.sizes]
  | r :: rs => by
    have h1 := allR_length r
    have h2 := allRs_length rs
    simp [allRs, Rx.sizes, h1, h2]
end
mutual
theorem allR_good : ∀ (r : Rx), (allR r).all goodN = goodR r
  | .node k s ks => by
    have := allRs_good ks
    simp [allR, goodR, goodN, this]
theorem allRs_good : ∀ (l : List Rx), (allRs l).all goodN = goodRs l
  | [] => by simp [allRs, goodRs]
  | r :: rs => by
    have h1 := allR_good r
    have h2 := allRs_good rs
    simp [allRs, goodRs, List.all_append, h1, h2]
end
def AllPost (B : Nat) (l : List Rx) (w : World) (e : Ending) (w' : World) : Prop := ∃ g off cap, e = .returned (.slice (some ⟨g, off, none⟩) l.length cap) ∧ w.heap.size ≤ g ∧ g < w'.heap.size ∧ l.length ≤ cap ∧ NodesAt (Lo B) w' g off l ∧ Below w.heap.size w w'
def allInv (B : Nat) (r : Rx) (ks : List Rx) (sl : Value) (w : World) (v y : Value) (wr : World) : Prop := ∃ (i m : Nat) (xs : List Value), i ≤ ks.length ∧ y = .int .i64 i ∧ m = 1 + Rx.sizes (ks.take i) ∧ wr.cell? ⟨w.heap.size, 5, none⟩ = some sl ∧ Below w.heap.size w wr ∧ w.heap.size + 1 < wr.heap.size ∧ wr.ownsRow (w.heap.size + 1) 30 6 v m xs ∧ RowVals (Lo B) wr xs (r :: allRs (ks.take i))
set_option maxHeartbeats 4000000 in
theorem all_any (B : Nat) (N : Nat) : ∀ (r : Rx), r.size ≤ N → ∀ (v : Value) (w : World), r.size ≤ 1000000 → B ≤ w.heap.size → ReAt (Lo B) w v r →
    Calls Try.prog 31 #[v] w (AllPost B (allR r) w) := by
  obtain ⟨i0, hi, hz0, hz1, hz2⟩ := info_parts infoR
  have hz2' := Lib.hid hz2
  clear hz2
  induction N with
  | zero => intro r h; have := r.size_pos; omega
  | succ N ih =>
    rintro ⟨k, s, ks⟩ hN v w hbig hB hR
    have HRE := Lib.hid hR
    obtain ⟨hk, hs, al, cap, rfl, hcap, hmax, hrow⟩ := hR
    have hN' : Rx.sizes ks ≤ N := by simp [Rx.size] at hN; omega
    have hbig' : 1 + Rx.sizes ks ≤ 1000000 := by simp [Rx.size] at hbig; omega
    have IH := Lib.hid ih
    have HR := Lib.hid hrow
    have HALL := Lib.hid (show allR (.node k s ks) = .node k s ks :: allRs ks from by simp [allR])
    obtain ⟨sa, sb, sc, sd⟩ := s
    clear ih hrow hN hbig
    go_enter Try.func31, Try.ntmps31
    go_wp2
    go_loopw [3, 10] (fun v y wr => allInv B (.node k ⟨sa, sb, sc, sd⟩ ks) ks (.slice al ks.length cap) w v y wr) (fun _ y _ => ks.length - (intOf y).toNat)
    case atStart =>
      have hbw : Below w.heap.size w ((w.alloc (.cells #[.int .u8 k, .int .u64 sa, .int .u64 sb, .int .u64 sc, .int .u64 sd, .slice al ks.length cap] 30)).alloc (.cells #[.int .u8 k, .int .u64 sa, .int .u64 sb, .int .u64 sc, .int .u64 sd, .slice al ks.length cap] 30)) := ((Below.refl _ w).alloc (Nat.le_refl _) _).alloc (by simp) _
      refine ⟨0, 1, [.int .u8 k, .int .u64 sa, .int .u64 sb, .int .u64 sc, .int .u64 sd, .slice al ks.length cap], Nat.zero_le _, rfl, by simp [Rx.sizes], ?_, hbw, by simp, ⟨rfl, .inr ⟨w.heap.size + 1, 1, #[.int .u8 k, .int .u64 sa, .int .u64 sb, .int .u64 sc, .int .u64 sd, .slice al ks.length cap], rfl, Nat.le_refl _, blk_at _ _ (by simp), Nat.le_refl _, by simp [maxLen], rfl, rfl⟩⟩, ?_⟩
      · rw [Lib.cell_of_heap ((Below.heap_alloc _ _ _ (by simp)).trans (blk_new w _))]; rfl
      · simp only [List.take_zero, allRs]
        exact RowVals.one (HRE.out.go (kept_lo hB (hbw.mono hB)))
    case round =>
      obtain ⟨i, m, xs, hii, rfl, hm, hc5, hb, hgs, hown, hvals⟩ := hrel
      have HO := Lib.hid hown
      have HV := Lib.hid hvals
      have HM := Lib.hid hm
      have hsz := hb.size
      clear hown hvals hm
      by_cases hlt : i < ks.length
      · obtain ⟨b, off, hab, hblt, hnode⟩ := HR.out.kid hlt
        subst hab
        have hkid := NodeAt.below hb _ hblt hnode
        have hkz := size_kid hlt
        have hst := sizes_take ks i hlt
        have hle := sizes_take_le ks (i + 1)
        have htk : allRs (ks.take (i + 1)) = allRs (ks.take i) ++ allR ks[i] := by
          rw [List.take_succ_eq_append_getElem hlt, allRs_append]; simp [allRs]
        have hal := allR_length ks[i]
        clear hnode
        generalize ks[i] = kid at *
        obtain ⟨k', ⟨ta, tb, tc, td⟩, ks'⟩ := kid
        obtain ⟨al', cap', ⟨c0, c1, c2, c3, c4, c5⟩, hre⟩ := hkid.read
        simp only at c0 c1 c2 c3 c4 c5
        have KC := Lib.hid (IH.out _ (Nat.le_trans hkz hN') _ wr (by omega) (Nat.le_trans hB hsz) hre)
        have HTK := Lib.hid htk
        have HAL := Lib.hid hal
        have HST := Lib.hid hst
        have HLE := Lib.hid hle
        clear hkid hre htk hal hst hle hkz
        generalize allR (Rx.node k' ⟨ta, tb, tc, td⟩ ks') = L at *
        generalize (Rx.node k' ⟨ta, tb, tc, td⟩ ks').size = z at *
        go_wp2_with fail
        refine KC.out.mono ?_
        rintro e w1 ⟨g, off1, cap1, rfl, hg1, hg2, hcap1, hn1, hb1⟩
        obtain ⟨ys, hys, hyc, hyo⟩ := nodes_vals _ _ hn1
        have hbw : Below w.heap.size w w1 := hb.trans (hb1.mono hsz)
        have HO1 := Lib.hid (ownR_below HO.out hb1)
        have HV1 := Lib.hid (HV.out.go (kept_lo (Nat.le_trans hB hsz) (hb1.mono (Nat.le_trans hB hsz))))
        have HYS := Lib.hid hys
        have HYC := Lib.hid hyc
        have HYO := Lib.hid hyo
        have hc51 : w1.cell? ⟨w.heap.size, 5, none⟩ = some (.slice (some ⟨b, off, none⟩) ks.length cap) := by
          rw [hb1.cell (p := ⟨w.heap.size, 5, none⟩) (show w.heap.size < wr.heap.size from by omega)]; exact hc5
        have hsz1 : w.heap.size + 1 < w1.heap.size := Nat.lt_of_lt_of_le hgs hb1.size
        have hnum : m + L.length ≤ 1000000 := by
          have := HM.out; have := HAL.out; have := HST.out; have := HLE.out; omega
        clear c0 c1 c2 c3 c4 c5 hn1 hys hyc hyo hb1 hc5
        go_wp2_with (at_builtin; refine wpList_append_own _ rfl _ _ 22 rfl (w.heap.size + 1) 30 i0 _ 6 64 Try.underlying22 hi hz0 hz1 hz2'.out rfl (by decide) _ _ _ rfl HO1.out ⟨g, off1, none⟩ L.length cap1 ys rfl HYS.out.1 ?c1 HYO.out ?c3 ?c4 ?c5 ?_)
        case c1 => intro j u hj; rw [Go.WideShapes.add_plain]; exact HYC.out j u hj
        case c3 => unfold maxLen; omega
        case c4 => omega
        case c5 => omega
        intro v' w2 hown' hgrow _
        have hge := ownR_ge HO1.out
        have hb2 : Below w.heap.size w w2 := hbw.grown hgrow (by omega) (fun g hg => by have := hge g hg; omega)
        have hb2' : Below B w1 w2 := (Below.refl B w1).grown hgrow (by omega) (fun g hg => by have := hge g hg; omega)
        have hc52 : w2.cell? ⟨w.heap.size, 5, none⟩ = some (.slice (some ⟨b, off, none⟩) ks.length cap) := by
          rw [World.cell?_of_block (w := w1) (a := ⟨w.heap.size, 5, none⟩) (hgrow.block _ (by show w.heap.size < _; omega) (fun e => by have := hge _ e.symm; simp at this; omega))]; exact hc51
        have hsz2 : w.heap.size + 1 < w2.heap.size := Nat.lt_of_lt_of_le hsz1 hgrow.size
        have hvals : RowVals (Lo B) w2 (xs ++ ys) ((.node k ⟨sa, sb, sc, sd⟩ ks :: allRs (ks.take i)) ++ L) :=
          (HV1.out.go (kept_lo (by omega) hb2')).append (HYS.out.go (kept_lo (by omega) hb2'))
        have hm2 : m + L.length = 1 + Rx.sizes (ks.take (i + 1)) := by
          have := HM.out; have := HAL.out; have := HST.out; omega
        have HOW := Lib.hid hown'
        have HVL := Lib.hid hvals
        have HM2 := Lib.hid hm2
        clear hgrow hown' hvals hm2 hc51 hge hb2'
        go_wp2
        exact ⟨⟨i + 1, m + L.length, xs ++ ys, by omega, by go_num, HM2.out, hc52, hb2, hsz2, HOW.out, by rw [HTK.out]; exact HVL.out⟩, by simp [intOf]; omega⟩
      · have he : ks.take i = ks := List.take_of_length_le (by omega)
        rw [he] at HV HM
        rw [← HALL.out] at HV
        have hlen : m = (allR (.node k ⟨sa, sb, sc, sd⟩ ks)).length := by rw [HALL.out, List.length_cons, allRs_length, HM.out]; omega
        obtain ⟨g, cap2, hv, g1, g2, g3, g4⟩ := own_nodes (by rw [← hlen]; exact HO.out) HV.out (by rw [HALL.out]; simp)
        have G4 := Lib.hid g4
        subst hv
        generalize allR (.node k ⟨sa, sb, sc, sd⟩ ks) = L at *
        clear g4 he hlen
        go_wp2
        go_ret
        exact ⟨g, 0, cap2, rfl, by omega, g2, g3, G4.out, hb⟩
theorem allX (B : Nat) (r : Rx) (v : Value) (w : World) (hbig : r.size ≤ 1000000) (hB : B ≤ w.heap.size) (h : ReAt (Lo B) w v r) :
    Calls Try.prog 31 #[v] w (AllPost B (allR r) w) := all_any B r.size r (Nat.le_refl _) v w hbig hB h
end Go.Proofs.Ythnecifdgoeenaa
/- quillref03's May. -/
namespace Go.Proofs.Ythnecifdgoeenaa
open Go.RowKit
def rmInv (L : List Rx) (w1 : World) (y : Value) (wr : World) : Prop := ∃ i : Nat, i ≤ L.length ∧ y = .int .i64 i ∧ (L.take i).all goodN = true ∧ Below w1.heap.size w1 wr
theorem all_no {L : List Rx} {i : Nat} (h : i < L.length) (hg : goodN L[i] = false) : L.all goodN = false := by
  rw [List.all_eq_false]; exact ⟨L[i], List.getElem_mem h, by rw [hg]; simp⟩
set_option maxHeartbeats 40000000 in
theorem refMay_any {ok : Nat → Prop} (r : Rx) (v : Value) (w : World) (hbig : r.size ≤ 1000000) (h : ReAt ok w v r) :
    Calls Try.prog 13 #[v] w fun e w' => e = .returned (.bool (mayR r)) ∧ Below w.heap.size w w' := by
  have h' : ReAt (Lo w.heap.size) w v r := h.imp fun b hb _ => hb
  have KA := Lib.hid fun W (hb : Below w.heap.size w W) => allX w.heap.size r v W hbig hb.size (h'.go (kept_lo (Nat.le_refl _) hb))
  have hmay : mayR r = ((allR r).all goodN && decide ((allR r).length ≤ 2000)) := by
    rw [allR_good, allR_length]; rfl
  have HMAY := Lib.hid hmay
  have hlen : (allR r).length ≤ 1000000 := by rw [allR_length]; exact hbig
  obtain ⟨x0, x1, x2, x3, x4, bl, n', cp, rfl⟩ := cells_re h
  clear h h' hmay
  generalize mayR r = ans at *
  generalize allR r = L at *
  go_enter Try.func13, Try.ntmps13
  go_wp2_with fail
  refine (KA.out _ ((Below.refl _ w).alloc (Nat.le_refl _) _)).mono ?_
  rintro e w1 ⟨g, off, cap, rfl, hg1, hg2, hcap, hn, hb1⟩
  have hbw : Below w.heap.size w w1 := ((Below.refl _ w).alloc (Nat.le_refl _) _).trans (hb1.mono (by simp))
  have HN := Lib.hid hn
  have HBW := Lib.hid hbw
  clear hn hb1 hbw hg1
  go_wp2
  go_loopw [10] (fun y wr => rmInv L w1 y wr) (fun y _ => L.length - (intOf y).toNat)
  case atStart => exact ⟨0, Nat.zero_le _, rfl, by simp, Below.refl _ _⟩
  case round =>
    obtain ⟨i, hii, rfl, hall, hb⟩ := hrel
    have HA := Lib.hid hall
    have hfin := HBW.out.trans (hb.mono HBW.out.size)
    have HFIN := Lib.hid hfin
    clear hall hfin
    by_cases hlt : i < L.length
    · have hkid := NodeAt.below hb _ hg2 (nodesAt_get HN.out i hlt)
      have htk : (L.take (i + 1)).all goodN = ((L.take i).all goodN && goodN L[i]) := by
        rw [List.take_succ_eq_append_getElem hlt, List.all_append]; simp
      have hno := fun h => all_no hlt h
      generalize L[i] = kid at *
      obtain ⟨k, s, ks⟩ := kid
      obtain ⟨al', cap', ⟨c0, c1, c2, c3, c4, c5⟩, hre⟩ := hkid.read
      obtain ⟨hk, hs, -, -, -, -, hlk, -⟩ := hre
      have hgn : goodN (.node k s ks) = nodeGood k ks.length (bareB s) := rfl
      rw [hgn] at htk hno
      have T1 := Lib.hid htk
      have T2 := Lib.hid hno
      have hq : ∀ W : World, (Op.equalIn 10000 28 s.v (.agg #[.int .u64 0, .int .u64 0, .int .u64 0, .int .u64 0])).run Try.prog W = .ok (bareB s) W := fun W => by
        rw [← nil_v]
        by_cases hb : s = Ws.nil
        · subst hb; rw [eqW_yes, show bareB Ws.nil = true from sameW_iff.2 rfl]
        · rw [eqW_no hb]; congr 1
          have : ¬ sameW s Ws.nil = true := fun e => hb (sameW_iff.1 e)
          symm; simpa [bareB] using this
      generalize bareB s = q at *
      obtain ⟨sa, sb, sc, sd⟩ := s
      unfold Ws.v at hq
      simp only at c0 c1 c2 c3 c4 c5 hq
      clear hkid htk hno hgn
      have q1 : (i : Int) < (L.length : Int) := by omega
      by_cases k0 : k = 0
      · subst k0
        go_wp2
        go_ret
        exact ⟨by rw [HMAY.out, T2.out (by simp [nodeGood])]; simp, HFIN.out⟩
      by_cases k7 : 6 < k
      · have d1 : decide ((k : Int) < (1 : Int)) = false := by simp; omega
        have d2 : decide ((6 : Int) < (k : Int)) = true := by simp; omega
        have hng : nodeGood k ks.length q = false := by
          have n1 : ¬ k = 1 := by omega
          have n2 : ¬ k = 2 := by omega
          have n3 : ¬ k = 3 := by omega
          have n4 : ¬ k = 4 := by omega
          have n5 : ¬ k = 5 := by omega
          have n6 : ¬ k = 6 := by omega
          simp [nodeGood, n1, n2, n3, n4, n5, n6]
        have HNG := Lib.hid hng
        clear hng
        go_wp2
        go_ret
        exact ⟨by rw [HMAY.out, T2.out HNG.out]; simp, HFIN.out⟩
      have hk6 : k = 1 ∨ k = 2 ∨ k = 3 ∨ k = 4 ∨ k = 5 ∨ k = 6 := by omega
      clear k0 k7 hk
      have hgw : g < wr.heap.size := Nat.lt_of_lt_of_le hg2 hb.size
      rcases hk6 with rfl | rfl | rfl | rfl | rfl | rfl
      · rw [show ((1 : Nat) : Int) = 1 from rfl] at c0
        cases q
        · go_wp2
          go_ret
          exact ⟨by rw [HMAY.out, T2.out (by simp [nodeGood])]; simp, HFIN.out⟩
        · go_wp2
          go_region
          all_goals
            by_cases hm : ks.length = 0
            · have d1 : ((ks.length : Int) != 0) = false := by simp only [bne_eq_false_iff_eq]; omega
              have T3 := Lib.hid (show nodeGood 1 ks.length true = true from by simp [nodeGood, hm])
              clear hm
              go_wp2
              exact ⟨⟨i + 1, by omega, by go_num, by rw [T1.out, HA.out, T3.out]; rfl, hb.drew.alloc hb.size _⟩, by simp [intOf]; omega⟩
            · have d1 : ((ks.length : Int) != 0) = true := by simp only [bne_iff_ne, ne_eq]; omega
              have T3 := Lib.hid (show nodeGood 1 ks.length true = false from by simp [nodeGood, hm])
              clear hm
              go_wp2
              go_ret
              exact ⟨by rw [HMAY.out, T2.out T3.out]; simp, HFIN.out.drew.alloc HFIN.out.size _⟩
      · rw [show ((2 : Nat) : Int) = 2 from rfl] at c0
        cases q
        · go_wp2
          go_ret
          exact ⟨by rw [HMAY.out, T2.out (by simp [nodeGood])]; simp, HFIN.out⟩
        · go_wp2
          go_region
          all_goals
            by_cases hm : ks.length = 0
            · have d1 : ((ks.length : Int) != 0) = false := by simp only [bne_eq_false_iff_eq]; omega
              have T3 := Lib.hid (show nodeGood 2 ks.length true = true from by simp [nodeGood, hm])
              clear hm
              go_wp2
              exact ⟨⟨i + 1, by omega, by go_num, by rw [T1.out, HA.out, T3.out]; rfl, hb.drew.alloc hb.size _⟩, by simp [intOf]; omega⟩
            · have d1 : ((ks.length : Int) != 0) = true := by simp only [bne_iff_ne, ne_eq]; omega
              have T3 := Lib.hid (show nodeGood 2 ks.length true = false from by simp [nodeGood, hm])
              clear hm
              go_wp2
              go_ret
              exact ⟨by rw [HMAY.out, T2.out T3.out]; simp, HFIN.out.drew.alloc HFIN.out.size _⟩
      · rw [show ((3 : Nat) : Int) = 3 from rfl] at c0
        cases q
        · go_wp2
          go_region
          all_goals
            by_cases hm : ks.length = 0
            · have d1 : ((ks.length : Int) != 0) = false := by simp only [bne_eq_false_iff_eq]; omega
              have T3 := Lib.hid (show nodeGood 3 ks.length false = true from by simp [nodeGood, hm])
              clear hm
              go_wp2
              exact ⟨⟨i + 1, by omega, by go_num, by rw [T1.out, HA.out, T3.out]; rfl, hb.drew.alloc hb.size _⟩, by simp [intOf]; omega⟩
            · have d1 : ((ks.length : Int) != 0) = true := by simp only [bne_iff_ne, ne_eq]; omega
              have T3 := Lib.hid (show nodeGood 3 ks.length false = false from by simp [nodeGood, hm])
              clear hm
              go_wp2
              go_ret
              exact ⟨by rw [HMAY.out, T2.out T3.out]; simp, HFIN.out.drew.alloc HFIN.out.size _⟩
        · go_wp2
          go_ret
          exact ⟨by rw [HMAY.out, T2.out (by simp [nodeGood])]; simp, HFIN.out⟩
      · rw [show ((4 : Nat) : Int) = 4 from rfl] at c0
        cases q
        · go_wp2
          go_ret
          exact ⟨by rw [HMAY.out, T2.out (by simp [nodeGood])]; simp, HFIN.out⟩
        · go_wp2
          go_region
          all_goals
            by_cases hm : ks.length = 2
            · have d1 : ((ks.length : Int) != 2) = false := by simp only [bne_eq_false_iff_eq]; omega
              have T3 := Lib.hid (show nodeGood 4 ks.length true = true from by simp [nodeGood, hm])
              clear hm
              go_wp2
              exact ⟨⟨i + 1, by omega, by go_num, by rw [T1.out, HA.out, T3.out]; rfl, hb.drew.alloc hb.size _⟩, by simp [intOf]; omega⟩
            · have d1 : ((ks.length : Int) != 2) = true := by simp only [bne_iff_ne, ne_eq]; omega
              have T3 := Lib.hid (show nodeGood 4 ks.length true = false from by simp [nodeGood, hm])
              clear hm
              go_wp2
              go_ret
              exact ⟨by rw [HMAY.out, T2.out T3.out]; simp, HFIN.out.drew.alloc HFIN.out.size _⟩
      · rw [show ((5 : Nat) : Int) = 5 from rfl] at c0
        cases q
        · go_wp2
          go_ret
          exact ⟨by rw [HMAY.out, T2.out (by simp [nodeGood])]; simp, HFIN.out⟩
        · go_wp2
          go_region
          all_goals
            by_cases hm : ks.length = 2
            · have d1 : ((ks.length : Int) != 2) = false := by simp only [bne_eq_false_iff_eq]; omega
              have T3 := Lib.hid (show nodeGood 5 ks.length true = true from by simp [nodeGood, hm])
              clear hm
              go_wp2
              exact ⟨⟨i + 1, by omega, by go_num, by rw [T1.out, HA.out, T3.out]; rfl, hb.drew.alloc hb.size _⟩, by simp [intOf]; omega⟩
            · have d1 : ((ks.length : Int) != 2) = true := by simp only [bne_iff_ne, ne_eq]; omega
              have T3 := Lib.hid (show nodeGood 5 ks.length true = false from by simp [nodeGood, hm])
              clear hm
              go_wp2
              go_ret
              exact ⟨by rw [HMAY.out, T2.out T3.out]; simp, HFIN.out.drew.alloc HFIN.out.size _⟩
      · rw [show ((6 : Nat) : Int) = 6 from rfl] at c0
        cases q
        · go_wp2
          go_ret
          exact ⟨by rw [HMAY.out, T2.out (by simp [nodeGood])]; simp, HFIN.out⟩
        · go_wp2
          go_region
          all_goals
            by_cases hm : ks.length = 1
            · have d1 : ((ks.length : Int) != 1) = false := by simp only [bne_eq_false_iff_eq]; omega
              have T3 := Lib.hid (show nodeGood 6 ks.length true = true from by simp [nodeGood, hm])
              clear hm
              go_wp2
              exact ⟨⟨i + 1, by omega, by go_num, by rw [T1.out, HA.out, T3.out]; rfl, hb.drew.alloc hb.size _⟩, by simp [intOf]; omega⟩
            · have d1 : ((ks.length : Int) != 1) = true := by simp only [bne_iff_ne, ne_eq]; omega
              have T3 := Lib.hid (show nodeGood 6 ks.length true = false from by simp [nodeGood, hm])
              clear hm
              go_wp2
              go_ret
              exact ⟨by rw [HMAY.out, T2.out T3.out]; simp, HFIN.out.drew.alloc HFIN.out.size _⟩
    · have he : L.take i = L := List.take_of_length_le (by omega)
      rw [he] at HA
      have hd : decide ((L.length : Int) ≤ (2000 : Int)) = decide (L.length ≤ 2000) := by rw [decide_eq_decide]; omega
      have HD := Lib.hid hd
      clear hd he
      go_wp2
      go_ret
      exact ⟨by rw [HMAY.out, HA.out, ← HD.out]; rfl, HFIN.out⟩
end Go.Proofs.Ythnecifdgoeenaa
/- quillref07's Null, Void, of any expression. -/
namespace Go.Proofs.Ythnecifdgoeenaa
open Go.RowKit
/-- The expression that may be, if it is one. -/
noncomputable def exX (r : Rx) : Option Ex := by
  classical
  exact if h : ∃ e : Ex, e.rx = r ∧ e.Wf ∧ e.size ≤ 2000 then some (Classical.choose h) else none
theorem exX_of {e : Ex} (we : e.Wf) (hs : e.size ≤ 2000) : exX e.rx = some e := by
  classical
  have h : ∃ f : Ex, f.rx = e.rx ∧ f.Wf ∧ f.size ≤ 2000 := ⟨e, rfl, we, hs⟩
  unfold exX
  rw [dif_pos h]
  exact congrArg some (Ex.rx_inj _ _ (Classical.choose_spec h).1)
theorem exX_no {r : Rx} (h : mayR r = false) : exX r = none := by
  classical
  unfold exX
  rw [dif_neg]
  rintro ⟨e, rfl, we, hs⟩
  have : mayR e.rx = true := by simp [mayR, mayN, good_ex e we, Ex.size_rx, hs]
  rw [this] at h
  cases h
noncomputable def nulX (r : Rx) : Bool := ((exX r).map Ex.nul).getD false
noncomputable def voidX (r : Rx) : Bool := ((exX r).map fun e => !e.fit).getD false
noncomputable def fstX (r : Rx) : Ws := ((exX r).map Ex.fst).getD Ws.nil
noncomputable def shrX (r : Rx) : Option (List UInt8) := ((exX r).map Ex.shr).getD none
set_option maxHeartbeats 2000000 in
theorem ref7Null {ok : Nat → Prop} (r : Rx) (v : Value) (w : World) (hbig : r.size ≤ 1000000) (h : ReAt ok w v r) :
    Calls Try.prog 8 #[v] w fun e w' => e = .returned (.bool (nulX r)) ∧ Below w.heap.size w w' := by
  obtain ⟨x0, x1, x2, x3, x4, xl, xn, xc, rfl⟩ := cells_re h
  have hb0 := (Below.refl _ w).alloc (Nat.le_refl _) (.cells #[.int .u8 x0, .int .u64 x1, .int .u64 x2, .int .u64 x3, .int .u64 x4, .slice xl xn xc] 30)
  have KM := Lib.hid (refMay_any r _ _ hbig (h.below hb0))
  have HX := Lib.hid (blk_new w (.cells #[.int .u8 x0, .int .u64 x1, .int .u64 x2, .int .u64 x3, .int .u64 x4, .slice xl xn xc] 30))
  have HB0 := Lib.hid hb0
  cases hm : mayR r with
  | false =>
    have hq : nulX r = false := by unfold nulX; rw [exX_no hm]; rfl
    rw [hq]
    rw [hm] at KM
    clear hm hq h hb0
    go_enter Try.func8, Try.ntmps8
    go_wp2_with fail
    refine KM.out.mono ?_
    rintro e w1 ⟨rfl, hb1⟩
    go_wp2
    go_ret
    exact ⟨rfl, HB0.out.trans (hb1.mono HB0.out.size)⟩
  | true =>
    obtain ⟨e0, he0, we, hs⟩ := may_ex h hm
    have hq : nulX r = e0.nul := by unfold nulX; rw [← he0, exX_of we hs]; rfl
    rw [hq]
    rw [hm] at KM
    have HH := Lib.hid h
    have HE := Lib.hid he0
    clear hm hq h hb0 he0
    go_enter Try.func8, Try.ntmps8
    go_wp2_with fail
    refine KM.out.mono ?_
    rintro e w1 ⟨rfl, hb1⟩
    have hbw := HB0.out.trans (hb1.mono HB0.out.size)
    have hx1 := (hb1.block w.heap.size (by simp)).trans HX.out
    obtain ⟨c0, c1, c2, c3, c4, c5, -⟩ := cellsR hx1
    have KN := Lib.hid (ref7nul e0.size e0 (Nat.le_refl _) _ w1 (by rw [HE.out]; exact HH.out.below hbw))
    clear hb1 hx1
    go_wp2_with fail
    refine KN.out.mono ?_
    rintro e w2 ⟨rfl, hb2⟩
    go_wp2
    go_ret
    exact ⟨rfl, hbw.trans (hb2.mono hbw.size)⟩
set_option maxHeartbeats 2000000 in
theorem ref7Void {ok : Nat → Prop} (r : Rx) (v : Value) (w : World) (hbig : r.size ≤ 1000000) (h : ReAt ok w v r) :
    Calls Try.prog 9 #[v] w fun e w' => e = .returned (.bool (voidX r)) ∧ Below w.heap.size w w' := by
  obtain ⟨x0, x1, x2, x3, x4, xl, xn, xc, rfl⟩ := cells_re h
  have hb0 := (Below.refl _ w).alloc (Nat.le_refl _) (.cells #[.int .u8 x0, .int .u64 x1, .int .u64 x2, .int .u64 x3, .int .u64 x4, .slice xl xn xc] 30)
  have KM := Lib.hid (refMay_any r _ _ hbig (h.below hb0))
  have HX := Lib.hid (blk_new w (.cells #[.int .u8 x0, .int .u64 x1, .int .u64 x2, .int .u64 x3, .int .u64 x4, .slice xl xn xc] 30))
  have HB0 := Lib.hid hb0
  cases hm : mayR r with
  | false =>
    have hq : voidX r = false := by unfold voidX; rw [exX_no hm]; rfl
    rw [hq]
    rw [hm] at KM
    clear hm hq h hb0
    go_enter Try.func9, Try.ntmps9
    go_wp2_with fail
    refine KM.out.mono ?_
    rintro e w1 ⟨rfl, hb1⟩
    go_wp2
    go_ret
    exact ⟨rfl, HB0.out.trans (hb1.mono HB0.out.size)⟩
  | true =>
    obtain ⟨e0, he0, we, hs⟩ := may_ex h hm
    have hq : voidX r = !e0.fit := by unfold voidX; rw [← he0, exX_of we hs]; rfl
    rw [hq]
    rw [hm] at KM
    have HH := Lib.hid h
    have HE := Lib.hid he0
    clear hm hq h hb0 he0
    go_enter Try.func9, Try.ntmps9
    go_wp2_with fail
    refine KM.out.mono ?_
    rintro e w1 ⟨rfl, hb1⟩
    have hbw := HB0.out.trans (hb1.mono HB0.out.size)
    have hx1 := (hb1.block w.heap.size (by simp)).trans HX.out
    obtain ⟨c0, c1, c2, c3, c4, c5, -⟩ := cellsR hx1
    have KN := Lib.hid (ref7fit e0.size e0 (Nat.le_refl _) _ w1 (by rw [HE.out]; exact HH.out.below hbw))
    clear hb1 hx1
    go_wp2_with fail
    refine KN.out.mono ?_
    rintro e w2 ⟨rfl, hb2⟩
    go_wp2
    go_ret
    exact ⟨rfl, hbw.trans (hb2.mono hbw.size)⟩
end Go.Proofs.Ythnecifdgoeenaa
/- Six cells of a node, kept. -/
namespace Go.Proofs.Ythnecifdgoeenaa
open Go.RowKit
def Six6 (x : World) (b off : Nat) (x0 x1 x2 x3 x4 x5 : Value) : Prop := x.cell? ⟨b, off, none⟩ = some x0 ∧ x.cell? ⟨b, off + 1, none⟩ = some x1 ∧ x.cell? ⟨b, off + 2, none⟩ = some x2 ∧ x.cell? ⟨b, off + 3, none⟩ = some x3 ∧ x.cell? ⟨b, off + 4, none⟩ = some x4 ∧ x.cell? ⟨b, off + 5, none⟩ = some x5
theorem Six6.go {W x : World} {b off B : Nat} {x0 x1 x2 x3 x4 x5 : Value} (h : Six6 W b off x0 x1 x2 x3 x4 x5) (hb : b < B) (hx : Below B W x) : Six6 x b off x0 x1 x2 x3 x4 x5 := by
  obtain ⟨d0, d1, d2, d3, d4, d5⟩ := h
  have e := fun o => hx.cell (p := ⟨b, o, none⟩) hb
  exact ⟨by rw [e]; exact d0, by rw [e]; exact d1, by rw [e]; exact d2, by rw [e]; exact d3, by rw [e]; exact d4, by rw [e]; exact d5⟩
end Go.Proofs.Ythnecifdgoeenaa
/- The landed reader in memory; front, must. -/
namespace Go.Proofs.Ythnecifdgoeenaa
open Go.RowKit
/-- The reader's block. -/
def RdB (w : World) (D : Nat) (s : ByteArray) (k : Nat) (vl : Value) : Prop := w.heap[D]? = some (.cells #[.string s, .int .i64 k, vl] 67 (0, 0))
theorem RdB.lt {w : World} {D : Nat} {s : ByteArray} {k : Nat} {vl : Value} (h : RdB w D s k vl) : D < w.heap.size := (Array.getElem?_eq_some_iff.1 h).1
theorem RdB.cells {w : World} {D : Nat} {s : ByteArray} {k : Nat} {vl : Value} (h : RdB w D s k vl) : w.cell? ⟨D, 0, none⟩ = some (.string s) ∧ w.cell? ⟨D, 1, none⟩ = some (.int .i64 k) ∧ w.cell? ⟨D, 2, none⟩ = some vl := by
  unfold RdB at h
  refine ⟨?_, ?_, ?_⟩ <;> (rw [Lib.cell_of_heap h]; rfl)
theorem RdB.frozen {w : World} {D : Nat} {s : ByteArray} {k : Nat} {vl : Value} (h : RdB w D s k vl) : w.frozen? ⟨D, 0, none⟩ = false ∧ w.frozen? ⟨D, 1, none⟩ = false ∧ w.frozen? ⟨D, 2, none⟩ = false :=
  ⟨Lib.frozen_of_heap h 0, Lib.frozen_of_heap h 1, Lib.frozen_of_heap h 2⟩
theorem RdB.of {w w' : World} {D : Nat} {s : ByteArray} {k : Nat} {vl : Value} (h : RdB w D s k vl) (e : w'.heap[D]? = w.heap[D]?) : RdB w' D s k vl := e.trans h
theorem RdB.below {w w' : World} {D : Nat} {s : ByteArray} {k : Nat} {vl : Value} (h : RdB w D s k vl) (hb : Below w.heap.size w w') : RdB w' D s k vl := h.of (hb.block D h.lt)
theorem RdB.go {w : World} {D : Nat} {s : ByteArray} {k : Nat} {vl : Value} (h : RdB w D s k vl) (j : Nat) : RdB (w.setCell ⟨D, 1, none⟩ (.int .i64 (j : Int))) D s j vl := by
  unfold RdB at h ⊢
  simp [World.setCell, Array.getElem?_modify, h]
theorem RdB.lay {w : World} {D : Nat} {s : ByteArray} {k : Nat} {vl : Value} (h : RdB w D s k vl) (u : Value) : RdB (w.setCell ⟨D, 2, none⟩ u) D s k u := by
  unfold RdB at h ⊢
  simp [World.setCell, Array.getElem?_modify, h]
/-- Thrown: the place of what may not stand there. -/
def thr (k : Nat) : Ending := .panicked [{ v := .iface 53 (.int .i64 k), recovered := false }]
theorem must_yes (p : Value) (w : World) : Calls Try.prog 43 #[p, .bool true] w fun e w' => e = .returned (.tuple #[]) ∧ w' = w := by
  go_enter Try.func43, Try.ntmps43
  go_wp2
  go_end0
  exact ⟨rfl, rfl⟩
theorem must_no {w : World} {D : Nat} {s : ByteArray} {k : Nat} {vl : Value} (h : RdB w D s k vl) : Calls Try.prog 43 #[.pointer (some ⟨D, 0, none⟩), .bool false] w fun e w' => e = thr k ∧ w' = w := by
  obtain ⟨c0, c1, c2⟩ := h.cells
  go_enter Try.func43, Try.ntmps43
  go_wp2
  exact ⟨rfl, rfl, rfl⟩
/-- The next byte as a text. -/
def frS (l : List UInt8) : ByteArray := ⟨(l.take 1).toArray⟩
theorem frS_ext (s : ByteArray) (k j : Nat) (hj : j = k + 1 ∨ (j = k ∧ s.size ≤ k)) : s.extract k j = frS (tl s k) := by
  apply ByteArray.ext
  unfold frS tl
  rw [ByteArray.data_extract]
  apply Array.ext'
  rw [Array.toList_extract, List.extract_eq_take_drop]
  rcases hj with rfl | ⟨rfl, h⟩
  · simp
  · rw [List.drop_eq_nil_of_le (by simpa using h)]; simp
set_option maxHeartbeats 1000000 in
theorem front_any {w : World} {D : Nat} {s : ByteArray} {k : Nat} {vl : Value} (h : RdB w D s k vl) (hs : s.size ≤ 1000000000) (hk : k ≤ s.size) : Calls Try.prog 47 #[.pointer (some ⟨D, 0, none⟩)] w fun e w' => e = .returned (.string (frS (tl s k))) ∧ Below w.heap.size w w' := by
  obtain ⟨c0, c1, c2⟩ := h.cells
  have wk : IntKind.i64.wrap ((k : Int) + 1) = (k : Int) + 1 := by rw [IntKind.wrap_i64]; omega
  clear h
  by_cases hlt : k < s.size
  · have q1 : (k : Int) + 1 ≤ (s.size : Int) := by omega
    have q2 : ((k : Int) + 1).toNat = k + 1 := by omega
    have hm : min ((k : Int) + 1) (s.size : Int) = (k : Int) + 1 := by omega
    go_enter Try.func47, Try.ntmps47
    go_wp2
    go_quiet (fail)
    go_wp2
    go_ret
    exact ⟨by rw [frS_ext s k (k + 1) (.inl rfl)]; rfl, below_drewN (Below.refl _ _) _⟩
  · have hke : k = s.size := by omega
    subst hke
    have hm : min ((s.size : Int) + 1) (s.size : Int) = (s.size : Int) := by omega
    go_enter Try.func47, Try.ntmps47
    go_wp2
    go_quiet (fail)
    go_wp2
    go_ret
    exact ⟨by rw [tl_nil s _ (Nat.le_refl _)]; rfl, below_drewN (Below.refl _ _) _⟩
set_option maxHeartbeats 1000000 in
theorem top_any {w : World} {D : Nat} {s : ByteArray} {k g n cap : Nat} (h : RdB w D s k (.slice (some ⟨g, 0, none⟩) (n + 1) cap)) (hn : n < 1000000000) : Calls Try.prog 57 #[.pointer (some ⟨D, 0, none⟩)] w fun e w' => e = .returned (.pointer (some ⟨g, n * 2, none⟩)) ∧ Below w.heap.size w w' := by
  obtain ⟨c0, c1, c2⟩ := h.cells
  have q1 : ((n + 1 : Nat) : Int) - 1 = (n : Int) := by omega
  have wk : IntKind.i64.wrap (n : Int) = (n : Int) := by rw [IntKind.wrap_i64]; omega
  clear h
  go_enter Try.func57, Try.ntmps57
  go_wp2
  go_quiet (fail)
  go_wp2
  go_ret
  exact ⟨rfl, below_drewN (Below.refl _ _) _⟩
end Go.Proofs.Ythnecifdgoeenaa
/- The landed Read's deferred closure. -/
namespace Go.Proofs.Ythnecifdgoeenaa
open Go.RowKit
set_option maxRecDepth 100000 in
set_option maxHeartbeats 4000000 in
theorem assert_mis (x : Value) (w : World) : (Instr.typeAssert (.iface 53 x) 20 53 true).run Try.prog w = .ok (.tuple #[x, .bool true]) w := by kernel_rfl
set_option maxRecDepth 100000 in
set_option maxHeartbeats 4000000 in
theorem assert_err (x : Value) (w : World) : (Instr.typeAssert (.iface 40 x) 20 40 true).run Try.prog w = .ok (.tuple #[x, .bool true]) w := by kernel_rfl
set_option maxRecDepth 100000 in
set_option maxHeartbeats 4000000 in
theorem assert_not (x : Value) (w : World) : (Instr.typeAssert (.iface 40 x) 20 53 true).run Try.prog w = .ok (.tuple #[.int .i64 0, .bool false]) w := by kernel_rfl
theorem rep15 : (Array.replicate 15 undef : Array Value) = #[undef, undef, undef, undef, undef, undef, undef, undef, undef, undef, undef, undef, undef, undef, undef] := rfl
set_option maxRecDepth 100000 in
set_option maxHeartbeats 4000000 in
theorem catch_idle (p q : Addr) (w : World) :
    CallsD Try.prog 34 #[.pointer (some p), .pointer (some q)] .returning w fun e u' w' => e = .returned (.tuple #[]) ∧ u' = .returning ∧ w' = w := by
  refine callsD_of_wpS Try.func34 rfl fun c₀ cs hu => ?_
  apply wpS_seq
  apply wpS_region
  simp [wpOpsS, go_sem, recoverD, hu, Try.ntmps34, Exit.thenS]
  simp only [rep15, List.setIfInBounds_toArray, List.set_cons_succ, List.set_cons_zero, List.append_toArray, List.cons_append, List.nil_append]
  refine wpS_of_wp ?_
  go_wp2
  cases c₀
  simp_all [bodyPostS, results, Try.results34]
set_option maxRecDepth 100000 in
set_option maxHeartbeats 4000000 in
theorem catch_form (g h : Nat) (k : Nat) (a b : Value) (older : List PanicEntry) (w : World) (ha : w.cell? ⟨g, 0, none⟩ = some a) (hb : w.cell? ⟨h, 0, none⟩ = some b) (fa : w.frozen? ⟨g, 0, none⟩ = false) (fb : w.frozen? ⟨h, 0, none⟩ = false) (hpq' : ¬ g = h) :
    CallsD Try.prog 34 #[.pointer (some ⟨g, 0, none⟩), .pointer (some ⟨h, 0, none⟩)] (.panicking ({ v := .iface 53 (.int .i64 k), recovered := false } :: older)) w fun e u' w' =>
      e = .returned (.tuple #[]) ∧ u' = .panicking ({ v := .iface 53 (.int .i64 k), recovered := true } :: older) ∧ w' = (w.setCell ⟨g, 0, none⟩ (.int .i64 k)).setCell ⟨h, 0, none⟩ (.int .i64 2) := by
  refine callsD_of_wpS Try.func34 rfl fun c₀ cs hu => ?_
  have h1 := assert_mis
  apply wpS_seq
  apply wpS_region
  simp [wpOpsS, go_sem, recoverD, hu, Try.ntmps34, Exit.thenS]
  simp only [rep15, List.setIfInBounds_toArray, List.set_cons_succ, List.set_cons_zero, List.append_toArray, List.cons_append, List.nil_append]
  refine wpS_of_wp ?_
  go_wp2
  simp [bodyPostS, results, Try.results34]
set_option maxRecDepth 100000 in
set_option maxHeartbeats 4000000 in
theorem catch_err (g h : Nat) (k : Nat) (b : Value) (older : List PanicEntry) (w : World) (hb : w.cell? ⟨h, 0, none⟩ = some b) (fb : w.frozen? ⟨h, 0, none⟩ = false) :
    CallsD Try.prog 34 #[.pointer (some ⟨g, 0, none⟩), .pointer (some ⟨h, 0, none⟩)] (.panicking ({ v := .iface 40 (.int .i64 k), recovered := false } :: older)) w fun e u' w' =>
      e = .returned (.tuple #[]) ∧ u' = .panicking ({ v := .iface 40 (.int .i64 k), recovered := true } :: older) ∧ w' = w.setCell ⟨h, 0, none⟩ (.int .i64 k) := by
  refine callsD_of_wpS Try.func34 rfl fun c₀ cs hu => ?_
  have h1 := assert_err
  have h2 := assert_not
  apply wpS_seq
  apply wpS_region
  simp [wpOpsS, go_sem, recoverD, hu, Try.ntmps34, Exit.thenS]
  simp only [rep15, List.setIfInBounds_toArray, List.set_cons_succ, List.set_cons_zero, List.append_toArray, List.cons_append, List.nil_append]
  refine wpS_of_wp ?_
  go_wp2
  simp [bodyPostS, results, Try.results34]
end Go.Proofs.Ythnecifdgoeenaa
