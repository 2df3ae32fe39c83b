/- order.picked, order.Sort. -/
import Derived.Test.YthkkeamjigmfhaaOrdJ
import Derived.Test.YthkkeamjigmfhaaOrdF
namespace Go.Proofs.Ythkkeamjigmfhaa
open Go.RowKit
/-- A row of expressions in memory of its own comes back. -/
def RowNew (l : List Rx) (w : World) (e : Ending) (w' : World) : Prop := ∃ al, e = .returned (.slice al l.length l.length) ∧ RowAt (New w.heap.size) w' al l ∧ Below w.heap.size w w'
def pickInv (l : List Rx) (es : List Nat) (w : World) (y : Value) (wr : World) : Prop := ∃ i : Nat, i ≤ es.length ∧ y = .int .i64 i ∧ Room wr w.heap.size (es.length * 6) ∧ NodesAt (New (w.heap.size + 1)) wr w.heap.size 0 ((es.take i).map (atR l)) ∧ Below w.heap.size w wr
set_option maxHeartbeats 4000000 in
theorem picked_any {ok : Nat → Prop} (l : List Rx) (al : Option Addr) (cap g capE : Nat) (es Z : List Nat) (w : World) (hl : es.length < 2199023255552) (hR : RowAt ok w al l) (hE : IntsAt w g (es ++ Z)) (hes : ∀ x ∈ es, x < l.length) :
    Calls Try.prog 26 #[.slice al l.length cap, .slice (some ⟨g, 0, none⟩) es.length capE] w (RowNew (es.map (atR l)) w) := by
  have HR := Lib.hid hR
  have HE := Lib.hid hE
  have HX := Lib.hid hes
  have hglt := hE.lt
  have hmk := make_re es.length hl
  clear hR hE hes
  go_enter Try.func26, Try.ntmps26
  go_wp2
  go_loopw [13] (fun y wr => pickInv l es w y wr) (fun y _ => es.length - (intOf y).toNat)
  case atStart =>
    exact ⟨0, Nat.zero_le _, rfl, room_made w zeroR (es.length * 6), by simp only [List.take_zero, List.map_nil]; unfold NodesAt; trivial, (Below.refl _ w).alloc (Nat.le_refl _) _⟩
  case round =>
    obtain ⟨i, hi, rfl, hroom, hnodes, hb⟩ := hrel
    have HN := Lib.hid hnodes
    have HM := Lib.hid hroom
    clear hnodes hroom
    by_cases hlt : i < es.length
    · have hx := HX.out es[i] (List.getElem_mem hlt)
      have ci := HE.out.cell i (by simp; omega)
      rw [List.getElem_append_left hlt] at ci
      replace ci := (hb.cell (p := ⟨g, i, none⟩) hglt).trans ci
      have htk : (es.take (i + 1)).map (atR l) = (es.take i).map (atR l) ++ [atR l es[i]] := by rw [List.take_succ_eq_append_getElem hlt, List.map_append]; rfl
      have hlen : ((es.take i).map (atR l)).length = i := by simp; omega
      generalize es[i] = k at *
      obtain ⟨b, off, hab, hblt, hnode⟩ := HR.out.kid hx
      subst hab
      have hkid := NodeAt.below hb _ hblt hnode
      rw [atR_get hx] at htk
      have HTK := Lib.hid htk
      have HLEN := Lib.hid hlen
      clear htk hlen
      generalize l[k] = kid at *
      obtain ⟨k', ⟨ta, tb, tc, td⟩, ks'⟩ := kid
      obtain ⟨al', cap', ⟨c0, c1, c2, c3, c4, c5⟩, hre⟩ := hkid.read
      simp only at c0 c1 c2 c3 c4 c5
      have K := Lib.hid (cloneR _ _ wr hre)
      clear hkid hnode hre
      have q1 : (i : Int) < (es.length : Int) := by omega
      have q2 : (k : Int) < (l.length : Int) := by omega
      go_wp2_with fail
      refine K.out.mono ?_
      rintro e w3 ⟨v, rfl, hv, hb3⟩
      obtain ⟨x0, x1, x2, x3, x4, bl, n', cp, rfl⟩ := cells_re hv
      have hgk := HM.out.lt
      have hroom : Room w3 w.heap.size (es.length * 6) := HM.out.of (hb3.block _ hgk)
      have hnodes : NodesAt (New (w.heap.size + 1)) w3 w.heap.size 0 ((es.take i).map (atR l)) := NodesAt.below hb3 _ hgk HN.out
      have hv3 := hv.imp (ok' := New (w.heap.size + 1)) fun b _ h => by
        unfold New at h ⊢; omega
      have hlen := HLEN.out
      have hpush := nodes_push hroom (by rw [hlen]; omega) (by unfold New; omega) hnodes hv3
      rw [hlen, ← HTK.out] at hpush
      have hput := (put6_at hroom (off := i * 6) (by omega) (.int .u8 x0) (.int .u64 x1) (.int .u64 x2) (.int .u64 x3) (.int .u64 x4) (.slice bl n' cp)).1
      have hbp := put6_below (hb.trans (hb3.mono hb.size)) (g := w.heap.size) (Nat.le_refl _) (i * 6) (.int .u8 x0) (.int .u64 x1) (.int .u64 x2) (.int .u64 x3) (.int .u64 x4) (.slice bl n' cp)
      obtain ⟨⟨z0, q0⟩, f0⟩ := hroom.cells (i * 6) (by omega)
      obtain ⟨⟨z1, q1'⟩, f1⟩ := hroom.cells (i * 6 + 1) (by omega)
      obtain ⟨⟨z2, q2'⟩, f2⟩ := hroom.cells (i * 6 + 2) (by omega)
      obtain ⟨⟨z3, q3⟩, f3⟩ := hroom.cells (i * 6 + 3) (by omega)
      obtain ⟨⟨z4, q4⟩, f4⟩ := hroom.cells (i * 6 + 4) (by omega)
      obtain ⟨⟨z5, q5⟩, f5⟩ := hroom.cells (i * 6 + 5) (by omega)
      unfold put6 at hpush hput hbp
      have HPUSH := Lib.hid hpush
      have HPUT := Lib.hid hput
      have HBP := Lib.hid hbp
      clear hv hb3 hroom hnodes hv3 hlen hpush hput hbp c0 c1 c2 c3 c4 c5 ci
      go_wp2
      exact ⟨⟨i + 1, by omega, by go_num, HPUT.out, HPUSH.out, HBP.out⟩, by simp [intOf]; omega⟩
    · have he : es.take i = es := List.take_of_length_le (by omega)
      rw [he] at HN
      have hgk := HM.out.lt
      have hrow : RowAt (New w.heap.size) wr (some ⟨w.heap.size, 0, none⟩) (es.map (atR l)) := .inr ⟨_, _, rfl, hgk, by unfold New; omega, NodesAt.go (ok := New (w.heap.size + 1)) ⟨Nat.le_refl _, fun b _ h => ⟨by unfold New at h ⊢; omega, rfl⟩⟩ _ rfl HN.out⟩
      have HROW := Lib.hid hrow
      clear hrow he
      go_wp2
      go_ret
      exact ⟨_, by rw [List.length_map]; rfl, HROW.out, hb⟩
set_option maxHeartbeats 1000000 in
theorem sort_any {ok : Nat → Prop} (l : List Rx) (al : Option Addr) (cap : Nat) (w : World) (hl : l.length ≤ 20) (hR : RowAt ok w al l) :
    Calls Try.prog 13 #[.slice al l.length cap] w (RowNew (sortR l) w) := by
  have K1 := Lib.hid (places_any l al cap w hl hR)
  have HR := Lib.hid hR
  clear hR
  go_enter Try.func13, Try.ntmps13
  go_wp2_with fail
  refine K1.out.mono ?_
  rintro e w1 ⟨g, ds, rfl, hg, hds, hI, hb⟩
  have hlen := hds.length
  have K2 := picked_any l al cap g l.length ds [] w1 (by omega) (HR.out.below hb) (by simpa using hI) (fun x hx => hds.lt hx)
  rw [placed_sort hds, hlen] at K2
  have K := Lib.hid K2
  clear K2 hds hI hlen
  go_wp2_with fail
  refine K.out.mono ?_
  rintro e w2 ⟨al2, rfl, hrow, hb2⟩
  have H := Lib.hid (hrow.imp (ok' := New w.heap.size) fun b _ h => Nat.le_trans hb.size h)
  replace hb := hb.trans (hb2.mono hb.size)
  clear hrow hb2
  go_wp2
  go_ret
  exact ⟨al2, rfl, H.out, hb⟩
end Go.Proofs.Ythkkeamjigmfhaa
