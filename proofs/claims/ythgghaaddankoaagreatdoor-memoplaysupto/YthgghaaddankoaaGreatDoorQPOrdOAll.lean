/- Lemmas of mine, merged: QPOrdO. -/
import Derived.Test.YthgghaaddankoaaGreatDoorQPStbDAll
import Derived.Test.YthgghaaddankoaaGreatDoorShelf
/- Lemmas of mine. -/
namespace Go.Proofs.YthgghaaddankoaaGreatDoor
open Go.RowKit Go.Sort
def casts (l : List Nat) : List Int := l.map fun i : Nat => (i : Int)
theorem holds_ints {w : World} {g : Nat} {es Z : List Nat} (h : IntsAt w g (es ++ Z)) : Holds (Value.int .i64) w g 0 (casts es).toArray := by
  intro j hj; (have hj' : j < es.length := by simpa [casts] using hj); rw [Nat.zero_add, h.cell j (by simp; omega), List.getElem_append_left hj']; refine ⟨?_, h.free j⟩; rw [getElem!_pos _ j hj]; simp [casts]
theorem put_ints {es fs Z : List Nat} (h : fs.length = es.length) : putCells (Value.int .i64) 0 (casts fs).toArray (ints (es ++ Z)) = ints (fs ++ Z) := by
  refine Array.ext (by simp [putCells, ints, h]) fun i h1 h2 => ?_; simp only [putCells, Array.getElem_mapIdx, Nat.zero_add, Nat.zero_le, true_and, Nat.sub_zero]
  by_cases e : i < fs.length
  · (have hc : i < (casts fs).toArray.size := by simpa [casts] using e); rw [if_pos hc, getElem!_pos _ i hc]; simp only [casts, ints, List.getElem_toArray, List.getElem_map]; rw [List.getElem_append_left e]
  · (have hc : ¬ i < (casts fs).toArray.size := by simpa [casts] using e); rw [if_neg hc]; simp only [ints, List.getElem_toArray, List.getElem_map]; rw [List.getElem_append_right (by omega), List.getElem_append_right (by omega)]; simp only [h]
theorem SortAt.sorted {w0 w : World} {c : Nat} {al : Option Addr} {n cap g : Nat} {es fs Z : List Nat} (h : SortAt w0 c al n cap g (es ++ Z) w) (hg : w0.heap.size ≤ g) (hcg : c ≠ g) (hl : fs.length = es.length) (m : Nat) (os : Array Obj) :
    SortAt w0 c al n cap g (fs ++ Z) (grow (putRow (Value.int .i64) (Sort.ahead w m) g 0 (casts fs).toArray) os) := by
  have hglt := h.2.2.lt; have hclt := h.2.1.lt; have hsz := h.1.size
  have keep : ∀ b, b < w.heap.size → b ≠ g → (grow (putRow (Value.int .i64) (Sort.ahead w m) g 0 (casts fs).toArray) os).heap[b]? = w.heap[b]? := fun b hb hne => by
    rw [heap_grow_old _ _ (by simpa using hb)]; simp [putRow, mapBlock, Array.getElem?_modify, Ne.symm hne]
  refine ⟨⟨h.1.os, h.1.tape, h.1.output, ?_, fun b hb => ?_⟩, ?_, ?_⟩
  · simp; omega
  · rw [keep b (by omega) (by omega)]; exact h.1.block b hb
  · exact h.2.1.of (keep c hclt hcg)
  · unfold IntsAt; rw [heap_grow_old _ _ (by simpa using hglt)]; have hh := h.2.2; unfold IntsAt at hh; simp [putRow, mapBlock, Array.getElem?_modify, hh, onCells, put_ints hl]
set_option maxHeartbeats 2000000 in
theorem once_any {ok : Nat → Prop} (l : List Rx) (al : Option Addr) (cap : Nat) (w : World) (hl : l.length ≤ 1000000) (hR : RowAt ok w al l) :
    Calls Tryz.prog 98 #[.slice al l.length cap] w (RowNew (onceR l) w) := by
  have HR := Lib.hid hR; have hb0 : Below w.heap.size w (w.alloc (.cells #[.slice al l.length cap] 27)) := (Below.refl _ w).alloc (Nat.le_refl _) _; have K1 := Lib.hid (places_any l al cap (w.alloc (.cells #[.slice al l.length cap] 27)) hl (hR.below hb0)); have hB0 : BoxL (w.alloc (.cells #[.slice al l.length cap] 27)) w.heap.size al l.length cap := blk_new w _; have HB0 := Lib.hid hB0; clear hR hB0; go_enter Tryz.func98, Tryz.ntmps98; go_wp2_with fail; refine K1.out.mono ?_; rintro e w1 ⟨g, ds, rfl, hg, hds, hI, hb⟩; (have hg' : w.heap.size + 1 ≤ g := by simpa using hg); have hlen := hds.length; have hS : SortAt w w.heap.size al l.length cap g ds w1 := ⟨hb0.trans (hb.mono hb0.size), HB0.out.of (hb.block _ HB0.out.lt), hI⟩; have K2 := compact_any l ds al cap w.heap.size g w w1 (by omega) HR.out (fun x hx => hds.lt hx) (by omega) (by omega) hS; rw [hlen] at K2; have KC := Lib.hid K2; have HD := Lib.hid hds; have HLEN := Lib.hid hlen; clear K2 hds hI hlen hS hb hg hb0 HB0; go_wp2_with fail; refine KC.out.mono ?_; rintro e w2 ⟨Z, rfl, hS⟩; rw [HLEN.out] at hS ⊢; obtain ⟨es, hes⟩ : ∃ es, es = cpt l ds l.length := ⟨_, rfl⟩; rw [← hes] at hS ⊢; (have hperm : es.Perm (firsts l l.length) := by rw [hes]; exact cpt_perm HD.out); (have hle : es.length ≤ 1000000 := by rw [hes]; exact Nat.le_trans (cpt_length l ds l.length) hl); (have hcl : (casts es).length = es.length := by simp [casts]); have hfl : (firsts l l.length).length = es.length := hperm.length_eq.symm; have KS := Tryz.slices_Sort_int g 0 l.length (casts es) w2 (holds_ints hS.2.2) hS.2.2.lt (by omega); rw [show (casts es).mergeSort (fun x y => decide (x ≤ y)) = casts (firsts l l.length) from sort_firsts hperm, hcl] at KS; have KP := Lib.hid fun m os => hS.sorted (fs := firsts l l.length) (by omega) (by omega) hfl m os; have HKS := Lib.hid KS; have HFL := Lib.hid hfl; clear KS hS hes hperm hcl hfl HD HLEN KC; go_wp2_with fail; refine HKS.out.mono ?_; rintro e w3 ⟨rfl, m, os, hw3⟩; have hS3 := KP.out m os; rw [← hw3] at hS3; have K2 := picked_any l al cap g l.length (firsts l l.length) Z w3 (by have := HFL.out; omega) (HR.out.below hS3.1) hS3.2.2 (fun x hx => firsts_lt hx); rw [firsts_onceR, HFL.out] at K2; have K := Lib.hid K2; have x0 := hS3.2.1.cell; have hb := hS3.1; clear K2 hS3 hw3 KP HKS; go_wp2_with fail; refine K.out.mono ?_; rintro e w4 ⟨al2, rfl, hrow, hb2⟩; have H := Lib.hid (hrow.imp (ok' := New w.heap.size) fun b _ h => Nat.le_trans hb.size h); replace hb := hb.trans (hb2.mono hb.size); clear hrow hb2 x0; go_wp2; go_ret; exact ⟨al2, rfl, H.out, hb⟩
end Go.Proofs.YthgghaaddankoaaGreatDoor
