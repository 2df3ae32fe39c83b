/- quillref04's SameAll and In. -/
import Derived.Test.YthkkeamjigmfhaaOrdA
namespace Go.Proofs.Ythkkeamjigmfhaa
open Go.RowKit
def samesInv (ks ks' : List Rx) (w : World) (y : Value) (wr : World) : Prop := ∃ i : Nat, i ≤ ks.length ∧ y = .int .i64 i ∧ (∀ j (h1 : j < ks.length) (h2 : j < ks'.length), j < i → sameR ks[j] ks'[j] = true) ∧ Below w.heap.size w wr
set_option maxHeartbeats 4000000 in
theorem sameAll_any {ok ok' : Nat → Prop} (ks ks' : List Rx) (al al' : Option Addr) (cap cap' : Nat) (w : World) (hl : ks.length < 2199023255552) (_hl' : ks'.length < 2199023255552) (hR : RowAt ok w al ks) (hU : RowAt ok' w al' ks') :
    Calls Try.prog 16 #[.slice al ks.length cap, .slice al' ks'.length cap'] w fun e w' => e = .returned (.bool (sameRs ks ks')) ∧ Below w.heap.size w w' := by
  have HR := Lib.hid hR
  have HU := Lib.hid hU
  clear hR hU
  by_cases hll : ks.length = ks'.length
  · have d1 : ((ks.length : Int) != (ks'.length : Int)) = false := by simp; omega
    have HLL := Lib.hid hll
    have l1 : ks.length ≤ ks'.length := by omega
    have l2 : ks'.length ≤ ks.length := by omega
    clear hll
    go_enter Try.func16, Try.ntmps16
    go_wp2
    go_loopw [13] (fun y wr => samesInv ks ks' w y wr) (fun y _ => ks.length - (intOf y).toNat)
    case atStart => exact ⟨0, Nat.zero_le _, rfl, fun j _ _ h => absurd h (Nat.not_lt_zero _), Below.refl _ w⟩
    case round =>
      obtain ⟨i, hi, rfl, hall, hb⟩ := hrel
      have HA := Lib.hid hall
      clear hall
      by_cases hlt : i < ks.length
      · have hlt' : i < ks'.length := by omega
        obtain ⟨b, off, hab, hblt, hnode⟩ := HR.out.kid hlt
        obtain ⟨b', off', hab', hblt', hnode'⟩ := HU.out.kid hlt'
        subst hab
        subst hab'
        have hkid := NodeAt.below hb _ hblt hnode
        have hkid' := NodeAt.below hb _ hblt' hnode'
        have HSA := fun h => sameRs_at (l := ks) (m := ks') i hlt hlt' h
        have HSB : ∀ h : sameR ks[i] ks'[i] = true, ∀ j (h1 : j < ks.length) (h2 : j < ks'.length), j < i + 1 → sameR ks[j] ks'[j] = true := by
          intro h j h1 h2 hj
          by_cases e : j = i
          · subst e; exact h
          · exact HA.out j h1 h2 (by omega)
        generalize ks[i] = kid at *
        generalize ks'[i] = kid' at *
        obtain ⟨kk, ⟨ta, tb, tc, td⟩, kks⟩ := kid
        obtain ⟨kk', ⟨ta', tb', tc', td'⟩, kks'⟩ := kid'
        obtain ⟨bl, bcap, ⟨c0, c1, c2, c3, c4, c5⟩, hre⟩ := hkid.read
        obtain ⟨bl', bcap', ⟨e0, e1, e2, e3, e4, e5⟩, hre'⟩ := hkid'.read
        simp only at c0 c1 c2 c3 c4 c5 e0 e1 e2 e3 e4 e5
        have KK := Lib.hid (refSame_any _ _ _ (Nat.le_refl _) _ _ wr.drew (hre.below (Below.refl _ _).drew) (hre'.below (Below.refl _ _).drew))
        generalize sameR (Rx.node kk ⟨ta, tb, tc, td⟩ kks) (Rx.node kk' ⟨ta', tb', tc', td'⟩ kks') = q at *
        have HSA' := Lib.hid HSA
        have HSB' := Lib.hid HSB
        clear hkid hkid' hnode hnode' HSA HSB hre hre'
        have q1 : (i : Int) < (ks.length : Int) := by omega
        have q2 : (i : Int) < (ks'.length : Int) := by omega
        go_wp2_with fail
        go_still_tail 8, (by kernel_rfl)
        change wpList _ _ _ _ _ wr.drew
        go_wp2_with fail
        refine KK.out.mono ?_
        rintro e w1 ⟨rfl, hb1⟩
        replace hb := hb.drew.trans (hb1.mono hb.drew.size)
        clear c0 c1 c2 c3 c4 c5 e0 e1 e2 e3 e4 e5 hb1
        cases q with
        | true =>
          go_wp2
          exact ⟨⟨i + 1, by omega, by go_num, HSB'.out trivial, hb⟩, by simp [intOf]; omega⟩
        | false =>
          go_wp2
          go_ret
          exact ⟨by rw [HSA'.out trivial]; rfl, hb⟩
      · have hall : sameRs ks ks' = true := sameRs_all HLL.out fun j h1 h2 => HA.out j h1 h2 (by omega)
        have HX := Lib.hid hall
        clear hall
        go_wp2
        go_ret
        exact ⟨by rw [HX.out]; rfl, hb⟩
  · have d1 : ((ks.length : Int) != (ks'.length : Int)) = true := by simp; omega
    have hno := Lib.hid (sameRs_length hll)
    clear hll
    go_enter Try.func16, Try.ntmps16
    go_wp2
    go_ret
    exact ⟨by rw [hno.out]; rfl, Below.refl _ w⟩
def inInv (l : List Rx) (r : Rx) (w : World) (o : Obj) (y : Value) (wr : World) : Prop := ∃ i : Nat, i ≤ l.length ∧ y = .int .i64 i ∧ (l.take i).any (fun x => sameR x r) = false ∧ wr.heap[w.heap.size]? = some o ∧ Below w.heap.size w wr
set_option maxHeartbeats 4000000 in
theorem in_any {ok ok' : Nat → Prop} (l : List Rx) (r : Rx) (al : Option Addr) (cap : Nat) (v : Value) (w : World) (hl : l.length < 2199023255552) (hR : RowAt ok w al l) (h : ReAt ok' w v r) :
    Calls Try.prog 31 #[.slice al l.length cap, v] w fun e w' => e = .returned (.bool (l.any fun x => sameR x r)) ∧ Below w.heap.size w w' := by
  have HR := Lib.hid hR
  have HV := Lib.hid h
  obtain ⟨x0, x1, x2, x3, x4, xl, xn, xc, rfl⟩ := cells_re h
  clear hR h
  go_enter Try.func31, Try.ntmps31
  go_wp2
  go_loopw [8] (fun y wr => inInv l r w (.cells #[.int .u8 x0, .int .u64 x1, .int .u64 x2, .int .u64 x3, .int .u64 x4, .slice xl xn xc] 27) y wr) (fun y _ => l.length - (intOf y).toNat)
  case atStart => exact ⟨0, Nat.zero_le _, rfl, by simp, blk_new w _, (Below.refl _ w).alloc (Nat.le_refl _) _⟩
  case round =>
    obtain ⟨i, hi, rfl, hany, hbl, hb⟩ := hrel
    have HA := Lib.hid hany
    have HB := Lib.hid hbl
    clear hany hbl
    by_cases hlt : i < l.length
    · obtain ⟨b, off, hab, hblt, hnode⟩ := HR.out.kid hlt
      subst hab
      have hkid := NodeAt.below hb _ hblt hnode
      have htk : (l.take (i + 1)).any (fun x => sameR x r) = ((l.take i).any (fun x => sameR x r) || sameR l[i] r) := by
        rw [List.take_succ_eq_append_getElem hlt, List.any_append, List.any_cons, List.any_nil, Bool.or_false]
      have hin : sameR l[i] r = true → l.any (fun x => sameR x r) = true := fun h => List.any_eq_true.2 ⟨l[i], List.getElem_mem hlt, h⟩
      generalize l[i] = kid at *
      obtain ⟨kk, ⟨ta, tb, tc, td⟩, kks⟩ := kid
      obtain ⟨bl, bcap, ⟨c0, c1, c2, c3, c4, c5⟩, hre⟩ := hkid.read
      simp only at c0 c1 c2 c3 c4 c5
      obtain ⟨d0, d1, d2, d3, d4, d5, -⟩ := cellsR HB.out
      have KK := Lib.hid (refSame_any _ _ r (Nat.le_refl _) _ _ wr.drew (hre.below (Below.refl _ _).drew) ((HV.out.below hb).below (Below.refl _ _).drew))
      generalize sameR (Rx.node kk ⟨ta, tb, tc, td⟩ kks) r = q at *
      have T1 := Lib.hid htk
      have T2 := Lib.hid hin
      have hlt0 : w.heap.size < wr.heap.size := (Array.getElem?_eq_some_iff.1 HB.out).1
      clear hkid hnode hre htk hin
      have q1 : (i : Int) < (l.length : Int) := by omega
      go_wp2_with fail
      go_still_tail 5, (by kernel_rfl)
      change wpList _ _ _ _ _ wr.drew
      go_wp2_with fail
      refine KK.out.mono ?_
      rintro e w1 ⟨rfl, hb1⟩
      have hbl1 := Lib.hid ((hb1.block w.heap.size hlt0).trans HB.out)
      replace hb := hb.drew.trans (hb1.mono hb.drew.size)
      clear c0 c1 c2 c3 c4 c5 d0 d1 d2 d3 d4 d5 hb1
      cases q with
      | true =>
        go_wp2
        go_ret
        exact ⟨by rw [T2.out trivial]; rfl, hb⟩
      | false =>
        go_wp2
        exact ⟨⟨i + 1, by omega, by go_num, by rw [T1.out, HA.out]; rfl, hbl1.out, hb⟩, by simp [intOf]; omega⟩
    · have he : l.take i = l := List.take_of_length_le (by omega)
      rw [he] at HA
      go_wp2
      go_ret
      exact ⟨by rw [HA.out]; rfl, hb⟩
end Go.Proofs.Ythkkeamjigmfhaa
