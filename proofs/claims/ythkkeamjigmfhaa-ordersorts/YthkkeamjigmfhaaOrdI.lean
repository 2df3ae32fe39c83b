/- slices.insertionSortCmpFunc, stableCmpFunc, SortStableFunc over places, up to 20 of them. -/
import Derived.Test.YthkkeamjigmfhaaOrdG
import Derived.Deep.RegionHeld3
import Derived.Shelf.RegionOpenPlain
namespace Go.Proofs.Ythkkeamjigmfhaa
open Go.RowKit
/-- What the sort keeps: all that was there, the box that the closure reads, the places. -/
def SortAt (w0 : World) (c : Nat) (al : Option Addr) (n cap g : Nat) (ds : List Nat) (w : World) : Prop := Below w0.heap.size w0 w ∧ BoxL w c al n cap ∧ IntsAt w g ds
theorem SortAt.go {w0 w w' : World} {c : Nat} {al : Option Addr} {n cap g : Nat} {ds : List Nat} (h : SortAt w0 c al n cap g ds w) (hb : Below w.heap.size w w') : SortAt w0 c al n cap g ds w' :=
  ⟨h.1.trans (hb.mono h.1.size), h.2.1.of (hb.block _ h.2.1.lt), h.2.2.of (hb.block _ h.2.2.lt)⟩
theorem SortAt.put {w0 w : World} {c : Nat} {al : Option Addr} {n cap g : Nat} {ds : List Nat} (h : SortAt w0 c al n cap g ds w) (hg : w0.heap.size ≤ g) (hcg : c ≠ g) (j x : Nat) : SortAt w0 c al n cap g (ds.set j x) (w.setCell ⟨g, j, none⟩ (.int .i64 (x : Int))) :=
  ⟨h.1.setCell (p := ⟨g, j, none⟩) hg _, h.2.1.of (Below.heap_setCell _ _ _ _ hcg), h.2.2.set j x⟩
theorem swap_list (A' B : List Nat) (y i : Nat) : ((A' ++ [y] ++ i :: B).set (A'.length + 1) y).set A'.length i = A' ++ i :: ([y] ++ B) := by
  simp
theorem at_left (A' B : List Nat) (y i : Nat) (h : A'.length < (A' ++ [y] ++ i :: B).length) : (A' ++ [y] ++ i :: B)[A'.length] = y := by simp
theorem at_right (A' B : List Nat) (y i : Nat) (h : A'.length + 1 < (A' ++ [y] ++ i :: B).length) : (A' ++ [y] ++ i :: B)[A'.length + 1] = i := by
  rw [List.getElem_append_right (by simp)]; simp
def insInv (l : List Rx) (w0 : World) (c : Nat) (al : Option Addr) (cap g i : Nat) (Q C : List Nat) (vj : Value) (wr : World) : Prop := ∃ (j : Nat) (A B : List Nat), vj = .int .i64 j ∧ A.length = j ∧ A ++ B = Q ∧ (∀ y ∈ B, ordR (atR l i) (atR l y) < 0) ∧ SortAt w0 c al l.length cap g (A ++ i :: (B ++ C)) wr
def outInv (l : List Rx) (w0 : World) (c : Nat) (al : Option Addr) (cap g : Nat) (vi : Value) (wr : World) : Prop := ∃ (i : Nat) (Q : List Nat), vi = .int .i64 i ∧ 1 ≤ i ∧ i ≤ l.length + 1 ∧ Placed l (min i l.length) Q ∧ SortAt w0 c al l.length cap g (Q ++ List.range' (min i l.length) (l.length - i)) wr
theorem placed_one (l : List Rx) : ∃ Q, Placed l (min 1 l.length) Q ∧ List.range l.length = Q ++ List.range' (min 1 l.length) (l.length - 1) := by
  by_cases h : l.length = 0
  · exact ⟨[], by rw [h]; exact ⟨List.Perm.refl _, List.Pairwise.nil⟩, by rw [h]; rfl⟩
  · refine ⟨[0], by rw [show min 1 l.length = 1 from by omega]; exact ⟨List.Perm.refl _, List.pairwise_singleton _ _⟩, ?_⟩
    rw [show min 1 l.length = 1 from by omega, List.range_eq_range', show l.length = (l.length - 1) + 1 from by omega, List.range'_succ]
    simp
def SortedPost (l : List Rx) (w0 : World) (c : Nat) (al : Option Addr) (cap g : Nat) (e : Ending) (w' : World) : Prop := e = .returned (.tuple #[]) ∧ ∃ ds, Placed l l.length ds ∧ SortAt w0 c al l.length cap g ds w'
set_option maxHeartbeats 4000000 in
theorem insertion_any {ok : Nat → Prop} (l : List Rx) (al : Option Addr) (cap c g : Nat) (w0 w : World) (hl : l.length ≤ 1000000) (hR : RowAt ok w0 al l) (hg : w0.heap.size ≤ g) (hcg : c ≠ g) (hS : SortAt w0 c al l.length cap g (List.range l.length) w) :
    Calls Try.prog 52 #[.slice (some ⟨g, 0, none⟩) l.length l.length, .int .i64 0, .int .i64 l.length, .func (.func 36) #[] #[.pointer (some ⟨c, 0, none⟩)]] w (SortedPost l w0 c al cap g) := by
  have KC := Lib.hid fun W (h : Below w0.heap.size w0 W) (hc : BoxL W c al l.length cap) i k (hi : i < l.length) (hk : k < l.length) => cmpAt l al cap c i k W (hR.below h) hc hi hk
  have HS := Lib.hid hS
  clear hR hS
  go_enter Try.func52, Try.ntmps52
  go_wp2
  go_loopw [8] (fun y wr => outInv l w0 c al cap g y wr) (fun y _ => l.length + 1 - (intOf y).toNat)
  case atStart =>
    obtain ⟨Q, h1, h2⟩ := placed_one l
    exact ⟨1, Q, rfl, Nat.le_refl _, by omega, h1, by rw [← h2]; exact HS.out⟩
  case round =>
    obtain ⟨i, Q, rfl, hi1, hi2, hQ, hSr⟩ := hrel
    clear HS
    have HQ := Lib.hid hQ
    have HS := Lib.hid hSr
    clear hQ hSr
    by_cases hlt : i < l.length
    · have hmin : min i l.length = i := by omega
      rw [hmin] at HQ HS
      have q1 : (i : Int) < (l.length : Int) := by omega
      have hC := range'_step hlt
      go_wp2
      go_loopw [9] (fun y wr => insInv l w0 c al cap g i Q (List.range' (i + 1) (l.length - (i + 1))) y wr) (fun y _ => (intOf y).toNat)
      case atStart => exact ⟨i, Q, [], rfl, HQ.out.length, by simp, by simp, by have h := HS.out; rw [hC] at h; simpa using h⟩
      case round =>
        obtain ⟨j, A, B, rfl, hA, hAB, hlast, hSr⟩ := hrel
        clear HS
        have HAB := Lib.hid hAB
        have HL := Lib.hid hlast
        have HS := Lib.hid hSr
        clear hAB hlast hSr
        by_cases hj : j = 0
        · subst hj
          have d1 : decide ((0 : Int) < (0 : Int)) = false := rfl
          have hAn : A = [] := List.eq_nil_of_length_eq_zero hA
          have hP : Placed l (i + 1) (A ++ i :: B) := placed_ins (by rw [HAB.out]; exact HQ.out) (.inl hAn) HL.out
          have HP := Lib.hid hP
          clear hP hAn d1
          go_wp2_with fail
          go_quiet (fail)
          have hbx : Below wr.heap.size wr (wr.drewN nq) := below_drewN (Below.refl _ _) nq
          have HS2 := Lib.hid (HS.out.go hbx)
          generalize wr.drewN nq = x at *
          clear hbx HS
          have hm1 : min (i + 1) l.length = i + 1 := by omega
          have hS3 : SortAt w0 c al l.length cap g ((A ++ i :: B) ++ List.range' (min (i + 1) l.length) (l.length - (i + 1))) x := by rw [hm1]; simpa using HS2.out
          have HS3 := Lib.hid hS3
          have HP' := Lib.hid (show Placed l (min (i + 1) l.length) (A ++ i :: B) from by rw [hm1]; exact HP.out)
          clear hS3 HS2 HP hm1
          go_wp2
          exact ⟨⟨i + 1, _, by go_num, by omega, by omega, HP'.out, HS3.out⟩, by simp [intOf]; omega⟩
        · obtain ⟨A', y, rfl⟩ : ∃ A' y, A = A' ++ [y] := ⟨A.dropLast, A.getLast (by intro h; simp [h] at hA; omega), (List.dropLast_concat_getLast _).symm⟩
          obtain ⟨p, hp⟩ : ∃ p, A'.length = p := ⟨_, rfl⟩
          obtain rfl : j = p + 1 := by rw [← hA, List.length_append, hp]; rfl
          have hy : y < i := HQ.out.lt (by rw [← HAB.out]; simp)
          have l1 := at_left A' (B ++ List.range' (i + 1) (l.length - (i + 1))) y i (by simp)
          have l2 := at_right A' (B ++ List.range' (i + 1) (l.length - (i + 1))) y i (by simp)
          have lsw := swap_list A' (B ++ List.range' (i + 1) (l.length - (i + 1))) y i
          have hlen : (A' ++ [y] ++ i :: (B ++ List.range' (i + 1) (l.length - (i + 1)))).length = l.length := by
            have := congrArg List.length HAB.out
            rw [HQ.out.length] at this
            simp at this ⊢; omega
          have hstop : ¬ ordR (atR l i) (atR l y) < 0 → Placed l (i + 1) (A' ++ [y] ++ i :: B) := fun h => placed_ins (by rw [HAB.out]; exact HQ.out) (.inr ⟨A', y, rfl, h⟩) HL.out
          have hgo : ordR (atR l i) (atR l y) < 0 → ∀ z ∈ [y] ++ B, ordR (atR l i) (atR l z) < 0 := fun h z hz => by
            rcases List.mem_append.1 hz with hz | hz
            · obtain rfl : z = y := by simpa using hz
              exact h
            · exact HL.out z hz
          have c1 := HS.out.2.2.cell (p + 1) (by rw [hlen]; simp at hA; have := HQ.out.length; have h2 := congrArg List.length HAB.out; simp at h2; omega)
          have c2 := HS.out.2.2.cell p (by rw [hlen]; simp at hA; have := HQ.out.length; have h2 := congrArg List.length HAB.out; simp at h2; omega)
          have hpl : p + 1 < l.length := by have := HQ.out.length; have h2 := congrArg List.length HAB.out; simp at h2; omega
          subst hp
          rw [l2] at c1
          rw [l1] at c2
          have HL1 := Lib.hid hstop
          have HL2 := Lib.hid hgo
          have HSW := Lib.hid lsw
          have HLEN := Lib.hid hlen
          have K1 := Lib.hid fun W (h : Below wr.heap.size wr W) => KC.out W (HS.out.1.trans (h.mono HS.out.1.size)) (HS.out.2.1.of (h.block _ HS.out.2.1.lt)) i y hlt (by omega)
          have hglt := HS.out.2.2.lt
          have KEEP := Lib.hid fun x (hx : Below wr.heap.size wr x) => show (x.cell? ⟨g, A'.length + 1, none⟩ = some (.int .i64 i) ∧ x.cell? ⟨g, A'.length, none⟩ = some (.int .i64 y)) ∧ Below wr.heap.size wr x from ⟨⟨(hx.cell (p := ⟨g, A'.length + 1, none⟩) hglt).trans c1, (hx.cell (p := ⟨g, A'.length, none⟩) hglt).trans c2⟩, hx⟩
          clear hstop hgo lsw hlen l1 l2 hA hj
          generalize ordR (atR l i) (atR l y) = q at *
          generalize hpe : A'.length = p at *
          have d1 : decide ((0 : Int) < (p : Int) + 1) = true := by simp
          have p0 : (0 : Int) ≤ (p : Int) + 1 := by omega
          have p1 : (0 : Int) ≤ (p : Int) := by omega
          have r1 : IntKind.i64.wrap ((p : Int) + 1) = (p : Int) + 1 := by rw [IntKind.wrap_i64]; omega
          have r2 : IntKind.i64.wrap (p : Int) = (p : Int) := by rw [IntKind.wrap_i64]; omega
          have t2 : ((p : Int)).toNat = p := by omega
          have d2 : (0 : Int) < (p : Int) + 1 := by omega
          have d3 : (p : Int) + 1 < (l.length : Int) := by omega
          have d4 : (p : Int) < (l.length : Int) := by omega
          have w1 : IntKind.i64.wrap ((p : Int) + 1 - 1) = (p : Int) := by rw [IntKind.wrap_i64]; omega
          have t1 : ((p : Int) + 1).toNat = p + 1 := by omega
          rw [show ((p + 1 : Nat) : Int) = (p : Int) + 1 from by omega]
          go_wp2_with fail
          go_region_held3 (fun x => (x.cell? ⟨g, p + 1, none⟩ = some (.int .i64 i) ∧ x.cell? ⟨g, p, none⟩ = some (.int .i64 y)) ∧ Below wr.heap.size wr x) (first | assumption | (with_reducible exact KEEP.out _ (Below.refl _ _).drew) | (with_reducible exact KEEP.out _ (by assumption)))
              (first | (go_at_call 36; (with_reducible refine (K1.out _ (And.right (by assumption))).mono ?_); (rintro e x ⟨rfl, hb1⟩); (have hbx : Below wr.heap.size wr x := (Below.refl _ wr).drew.trans hb1)))
          have HS2 := Lib.hid (HS.out.go hbx)
          obtain ⟨⟨c1, c2⟩, -⟩ := KEEP.out _ hbx
          have f1 := HS2.out.2.2.free (p + 1)
          have f2 := HS2.out.2.2.free p
          clear hb1 hbx HS
          by_cases hq : q < 0
          · have d9 : decide (q < 0) = true := by simpa using hq
            have HG := Lib.hid (HL2.out hq)
            have hS3 := (HS2.out.put hg hcg (p + 1) y).put hg hcg p i
            rw [HSW.out] at hS3
            have HS3 := Lib.hid (hS3.go (Below.refl _ _).drew)
            have c3 : (x.setCell ⟨g, p + 1, none⟩ (.int .i64 y)).cell? ⟨g, p, none⟩ = some (.int .i64 y) := (World.cell?_setCell_other _ _ _ _ (by intro e; simp at e)).trans c2
            clear hS3 HSW HS2 hq
            rw [d9]
            have mixed : Try.prog.follows Departure.mixedOrders = true := by kernel_rfl
            go_wp2_with fail
            go_big_region_o
            generalize ((x.setCell ⟨g, p + 1, none⟩ (.int .i64 y)).setCell ⟨g, p, none⟩ (.int .i64 i)).drew = x2 at HS3 ⊢
            clear c1 c2 c3 f1 f2
            go_wp2
            exact ⟨⟨p, A', [y] ++ B, by go_num, hpe, by rw [← HAB.out]; simp, HG.out, by simpa using HS3.out⟩, by simp [intOf]⟩
          · have d9 : decide (q < 0) = false := by simpa using hq
            have hm1 : min (i + 1) l.length = i + 1 := by omega
            have hS3 : SortAt w0 c al l.length cap g ((A' ++ [y] ++ i :: B) ++ List.range' (min (i + 1) l.length) (l.length - (i + 1))) x := by rw [hm1]; simpa using HS2.out
            have HS3 := Lib.hid hS3
            have HP' := Lib.hid (show Placed l (min (i + 1) l.length) (A' ++ [y] ++ i :: B) from by rw [hm1]; exact HL1.out (by omega))
            clear hS3 HS2 hm1 hq
            clear c1 c2 f1 f2
            rw [d9]
            go_wp2
            exact ⟨⟨i + 1, _, by go_num, by omega, by omega, HP'.out, HS3.out⟩, by simp [intOf]; omega⟩
    · have hmin : min i l.length = l.length := by omega
      rw [hmin] at HQ HS
      rw [show l.length - i = 0 from by omega] at HS
      have q1 : ¬ (i : Int) < (l.length : Int) := by omega
      go_wp2
      go_end0
      exact ⟨rfl, Q, HQ.out, by simpa using HS.out⟩
end Go.Proofs.Ythkkeamjigmfhaa
