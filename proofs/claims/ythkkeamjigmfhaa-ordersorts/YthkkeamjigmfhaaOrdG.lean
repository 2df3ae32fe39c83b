/- The closures that order holds places by; blocks of places. -/
import Derived.Test.YthkkeamjigmfhaaOrdT
import Derived.Test.YthkkeamjigmfhaaOrdP
namespace Go.Proofs.Ythkkeamjigmfhaa
open Go.RowKit
/-- A block that holds the slice which a closure has caught. -/
def BoxL (w : World) (c : Nat) (al : Option Addr) (n cap : Nat) : Prop := w.heap[c]? = some (.cells #[.slice al n cap] 25)
theorem BoxL.cell {w : World} {c : Nat} {al : Option Addr} {n cap : Nat} (h : BoxL w c al n cap) : w.cell? ⟨c, 0, none⟩ = some (.slice al n cap) := by rw [Lib.cell_of_heap h]; rfl
theorem BoxL.lt {w : World} {c : Nat} {al : Option Addr} {n cap : Nat} (h : BoxL w c al n cap) : c < w.heap.size := (Array.getElem?_eq_some_iff.1 h).1
theorem BoxL.of {w w' : World} {c : Nat} {al : Option Addr} {n cap : Nat} (h : BoxL w c al n cap) (e : w'.heap[c]? = w.heap[c]?) : BoxL w' c al n cap := e.trans h
set_option maxHeartbeats 2000000 in
theorem cmpAt {ok : Nat → Prop} (l : List Rx) (al : Option Addr) (cap c i k : Nat) (w : World) (hR : RowAt ok w al l) (hc : BoxL w c al l.length cap) (hi : i < l.length) (hk : k < l.length) :
    Calls Try.prog 36 #[.int .i64 i, .int .i64 k, .pointer (some ⟨c, 0, none⟩)] w fun e w' => e = .returned (.int .i64 (ordR (atR l i) (atR l k))) ∧ Below w.heap.size w w' := by
  obtain ⟨b, off, hab, hblt, hnode⟩ := hR.kid hi
  obtain ⟨b', off', hab', hblt', hnode'⟩ := hR.kid hk
  rw [atR_get hi, atR_get hk]
  have x0 := hc.cell
  have hcl := hc.lt
  subst hab
  simp at hab'
  obtain ⟨rfl, rfl⟩ := hab'
  clear hR hc
  generalize l[i] = kid at *
  generalize l[k] = kid' at *
  obtain ⟨kk, ⟨ta, tb, tc, td⟩, kks⟩ := kid
  obtain ⟨kk', ⟨ta', tb', tc', td'⟩, kks'⟩ := kid'
  obtain ⟨bl, bcap, ⟨c0, c1, c2, c3, c4, c5⟩, hre⟩ := hnode.read
  obtain ⟨bl', bcap', ⟨e0, e1, e2, e3, e4, e5⟩, hre'⟩ := hnode'.read
  simp only at c0 c1 c2 c3 c4 c5 e0 e1 e2 e3 e4 e5
  have KK := Lib.hid (twoX _ _ _ _ w.drew (hre.below (Below.refl _ _).drew) (hre'.below (Below.refl _ _).drew))
  generalize ordR (Rx.node kk ⟨ta, tb, tc, td⟩ kks) (Rx.node kk' ⟨ta', tb', tc', td'⟩ kks') = q at *
  clear hnode hnode' hre hre'
  have q1 : (i : Int) < (l.length : Int) := by omega
  have q2 : (k : Int) < (l.length : Int) := by omega
  go_enter Try.func36, Try.ntmps36
  go_wp2_with fail
  go_still_tail 8, (by kernel_rfl)
  change wpList _ _ _ _ _ w.drew
  go_wp2_with fail
  refine KK.out.mono ?_
  rintro e w1 ⟨rfl, hb1⟩
  have hb : Below w.heap.size w w1 := (Below.refl _ w).drew.trans hb1
  clear c0 c1 c2 c3 c4 c5 e0 e1 e2 e3 e4 e5 hb1 x0
  go_wp2
  go_ret
  exact ⟨rfl, hb⟩
set_option maxHeartbeats 2000000 in
theorem eqAt {ok : Nat → Prop} (l : List Rx) (al : Option Addr) (cap c i k : Nat) (w : World) (hR : RowAt ok w al l) (hc : BoxL w c al l.length cap) (hi : i < l.length) (hk : k < l.length) :
    Calls Try.prog 29 #[.int .i64 i, .int .i64 k, .pointer (some ⟨c, 0, none⟩)] w fun e w' => e = .returned (.bool (ordR (atR l i) (atR l k) == 0)) ∧ Below w.heap.size w w' := by
  obtain ⟨b, off, hab, hblt, hnode⟩ := hR.kid hi
  obtain ⟨b', off', hab', hblt', hnode'⟩ := hR.kid hk
  rw [atR_get hi, atR_get hk]
  have x0 := hc.cell
  have hcl := hc.lt
  subst hab
  simp at hab'
  obtain ⟨rfl, rfl⟩ := hab'
  clear hR hc
  generalize l[i] = kid at *
  generalize l[k] = kid' at *
  obtain ⟨kk, ⟨ta, tb, tc, td⟩, kks⟩ := kid
  obtain ⟨kk', ⟨ta', tb', tc', td'⟩, kks'⟩ := kid'
  obtain ⟨bl, bcap, ⟨c0, c1, c2, c3, c4, c5⟩, hre⟩ := hnode.read
  obtain ⟨bl', bcap', ⟨e0, e1, e2, e3, e4, e5⟩, hre'⟩ := hnode'.read
  simp only at c0 c1 c2 c3 c4 c5 e0 e1 e2 e3 e4 e5
  have KK := Lib.hid (twoX _ _ _ _ w.drew (hre.below (Below.refl _ _).drew) (hre'.below (Below.refl _ _).drew))
  generalize ordR (Rx.node kk ⟨ta, tb, tc, td⟩ kks) (Rx.node kk' ⟨ta', tb', tc', td'⟩ kks') = q at *
  clear hnode hnode' hre hre'
  have q1 : (i : Int) < (l.length : Int) := by omega
  have q2 : (k : Int) < (l.length : Int) := by omega
  go_enter Try.func29, Try.ntmps29
  go_wp2_with fail
  go_still_tail 8, (by kernel_rfl)
  change wpList _ _ _ _ _ w.drew
  go_wp2_with fail
  refine KK.out.mono ?_
  rintro e w1 ⟨rfl, hb1⟩
  have hb : Below w.heap.size w w1 := (Below.refl _ w).drew.trans hb1
  clear c0 c1 c2 c3 c4 c5 e0 e1 e2 e3 e4 e5 hb1 x0
  go_wp2
  go_ret
  exact ⟨rfl, hb⟩
/-- A block of places. -/
def ints (ds : List Nat) : Array Value := (ds.map fun i : Nat => Value.int .i64 (i : Int)).toArray
def IntsAt (w : World) (g : Nat) (ds : List Nat) : Prop := w.heap[g]? = some (.cells (ints ds) 3)
theorem IntsAt.lt {w : World} {g : Nat} {ds : List Nat} (h : IntsAt w g ds) : g < w.heap.size := (Array.getElem?_eq_some_iff.1 h).1
theorem IntsAt.of {w w' : World} {g : Nat} {ds : List Nat} (h : IntsAt w g ds) (e : w'.heap[g]? = w.heap[g]?) : IntsAt w' g ds := e.trans h
theorem IntsAt.cell {w : World} {g : Nat} {ds : List Nat} (h : IntsAt w g ds) (j : Nat) (hj : j < ds.length) : w.cell? ⟨g, j, none⟩ = some (.int .i64 (ds[j] : Int)) := by
  rw [Lib.cell_of_heap h]
  simp [ints, hj]
theorem IntsAt.free {w : World} {g : Nat} {ds : List Nat} (h : IntsAt w g ds) (j : Nat) : w.frozen? ⟨g, j, none⟩ = false := Lib.frozen_of_heap h j
theorem IntsAt.set {w : World} {g : Nat} {ds : List Nat} (h : IntsAt w g ds) (j x : Nat) : IntsAt (w.setCell ⟨g, j, none⟩ (.int .i64 (x : Int))) g (ds.set j x) := by
  unfold IntsAt at h ⊢
  simp [World.setCell, Array.getElem?_modify, h, ints, List.map_set]
end Go.Proofs.Ythkkeamjigmfhaa
