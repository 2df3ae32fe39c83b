/- quillref03's All. -/
import Derived.Test.YtdkdgbiagjflgaaDoorRexQ
namespace Go.Proofs.YtdkdgbiagjflgaaDoor
open Go.RowKit
mutual
def allR : Rx → List Rx
  | .node k s ks => .node k s ks :: allRs ks
def allRs : List Rx → List Rx
  | [] => []
  | r :: rs => allR r ++ allRs rs
end
theorem allRs_append (a b : List Rx) : allRs (a ++ b) = allRs a ++ allRs b := by
  induction a with
  | nil => simp [allRs]
  | cons x t ih => simp [allRs, ih, List.append_assoc]
mutual
theorem allR_length : ∀ (r : Rx), (allR r).length = r.size
  | .node k s ks => by
    have := allRs_length ks
    simp [allR, Rx.size, this]; omega
theorem allRs_length : ∀ (l : List Rx), (allRs l).length = Rx.sizes l
  | [] => by simp [allRs, Rx.sizes]
  | r :: rs => by
    have h1 := allR_length r
    have h2 := allRs_length rs
    simp [allRs, Rx.sizes, h1, h2]
end
mutual
theorem allR_good : ∀ (r : Rx), (allR r).all goodN = goodR r
  | .node k s ks => by
    have := allRs_good ks
    simp [allR, goodR, goodN, this]
theorem allRs_good : ∀ (l : List Rx), (allRs l).all goodN = goodRs l
  | [] => by simp [allRs, goodRs]
  | r :: rs => by
    have h1 := allR_good r
    have h2 := allRs_good rs
    simp [allRs, goodRs, List.all_append, h1, h2]
end
def AllPost (B : Nat) (l : List Rx) (w : World) (e : Ending) (w' : World) : Prop := ∃ g off cap, e = .returned (.slice (some ⟨g, off, none⟩) l.length cap) ∧ w.heap.size ≤ g ∧ g < w'.heap.size ∧ l.length ≤ cap ∧ NodesAt (Lo B) w' g off l ∧ Below w.heap.size w w'
def allInv (B : Nat) (r : Rx) (ks : List Rx) (sl : Value) (w : World) (v y : Value) (wr : World) : Prop := ∃ (i m : Nat) (xs : List Value), i ≤ ks.length ∧ y = .int .i64 i ∧ m = 1 + Rx.sizes (ks.take i) ∧ wr.cell? ⟨w.heap.size, 5, none⟩ = some sl ∧ Below w.heap.size w wr ∧ w.heap.size + 1 < wr.heap.size ∧ wr.ownsRow (w.heap.size + 1) 30 6 v m xs ∧ RowVals (Lo B) wr xs (r :: allRs (ks.take i))
set_option maxHeartbeats 4000000 in
theorem all_any (B : Nat) (N : Nat) : ∀ (r : Rx), r.size ≤ N → ∀ (v : Value) (w : World), r.size ≤ 1000000 → B ≤ w.heap.size → ReAt (Lo B) w v r →
    Calls Tryd.prog 31 #[v] w (AllPost B (allR r) w) := by
  obtain ⟨i0, hi, hz0, hz1, hz2⟩ := info_parts infoR
  have hz2' := Lib.hid hz2
  clear hz2
  induction N with
  | zero => intro r h; have := r.size_pos; omega
  | succ N ih =>
    rintro ⟨k, s, ks⟩ hN v w hbig hB hR
    have HRE := Lib.hid hR
    obtain ⟨hk, hs, al, cap, rfl, hcap, hmax, hrow⟩ := hR
    have hN' : Rx.sizes ks ≤ N := by simp [Rx.size] at hN; omega
    have hbig' : 1 + Rx.sizes ks ≤ 1000000 := by simp [Rx.size] at hbig; omega
    have IH := Lib.hid ih
    have HR := Lib.hid hrow
    have HALL := Lib.hid (show allR (.node k s ks) = .node k s ks :: allRs ks from by simp [allR])
    obtain ⟨sa, sb, sc, sd⟩ := s
    clear ih hrow hN hbig
    go_enter Tryd.func31, Tryd.ntmps31
    go_wp2
    go_loopw [3, 10] (fun v y wr => allInv B (.node k ⟨sa, sb, sc, sd⟩ ks) ks (.slice al ks.length cap) w v y wr) (fun _ y _ => ks.length - (intOf y).toNat)
    case atStart =>
      have hbw : Below w.heap.size w ((w.alloc (.cells #[.int .u8 k, .int .u64 sa, .int .u64 sb, .int .u64 sc, .int .u64 sd, .slice al ks.length cap] 30)).alloc (.cells #[.int .u8 k, .int .u64 sa, .int .u64 sb, .int .u64 sc, .int .u64 sd, .slice al ks.length cap] 30)) := ((Below.refl _ w).alloc (Nat.le_refl _) _).alloc (by simp) _
      refine ⟨0, 1, [.int .u8 k, .int .u64 sa, .int .u64 sb, .int .u64 sc, .int .u64 sd, .slice al ks.length cap], Nat.zero_le _, rfl, by simp [Rx.sizes], ?_, hbw, by simp, ⟨rfl, .inr ⟨w.heap.size + 1, 1, #[.int .u8 k, .int .u64 sa, .int .u64 sb, .int .u64 sc, .int .u64 sd, .slice al ks.length cap], rfl, Nat.le_refl _, blk_at _ _ (by simp), Nat.le_refl _, by simp [maxLen], rfl, rfl⟩⟩, ?_⟩
      · rw [Lib.cell_of_heap ((Below.heap_alloc _ _ _ (by simp)).trans (blk_new w _))]; rfl
      · simp only [List.take_zero, allRs]
        exact RowVals.one (HRE.out.go (kept_lo hB (hbw.mono hB)))
    case round =>
      obtain ⟨i, m, xs, hii, rfl, hm, hc5, hb, hgs, hown, hvals⟩ := hrel
      have HO := Lib.hid hown
      have HV := Lib.hid hvals
      have HM := Lib.hid hm
      have hsz := hb.size
      clear hown hvals hm
      by_cases hlt : i < ks.length
      · obtain ⟨b, off, hab, hblt, hnode⟩ := HR.out.kid hlt
        subst hab
        have hkid := NodeAt.below hb _ hblt hnode
        have hkz := size_kid hlt
        have hst := sizes_take ks i hlt
        have hle := sizes_take_le ks (i + 1)
        have htk : allRs (ks.take (i + 1)) = allRs (ks.take i) ++ allR ks[i] := by
          rw [List.take_succ_eq_append_getElem hlt, allRs_append]; simp [allRs]
        have hal := allR_length ks[i]
        clear hnode
        generalize ks[i] = kid at *
        obtain ⟨k', ⟨ta, tb, tc, td⟩, ks'⟩ := kid
        obtain ⟨al', cap', ⟨c0, c1, c2, c3, c4, c5⟩, hre⟩ := hkid.read
        simp only at c0 c1 c2 c3 c4 c5
        have KC := Lib.hid (IH.out _ (Nat.le_trans hkz hN') _ wr (by omega) (Nat.le_trans hB hsz) hre)
        have HTK := Lib.hid htk
        have HAL := Lib.hid hal
        have HST := Lib.hid hst
        have HLE := Lib.hid hle
        clear hkid hre htk hal hst hle hkz
        generalize allR (Rx.node k' ⟨ta, tb, tc, td⟩ ks') = L at *
        generalize (Rx.node k' ⟨ta, tb, tc, td⟩ ks').size = z at *
        go_wp2_with fail
        refine KC.out.mono ?_
        rintro e w1 ⟨g, off1, cap1, rfl, hg1, hg2, hcap1, hn1, hb1⟩
        obtain ⟨ys, hys, hyc, hyo⟩ := nodes_vals _ _ hn1
        have hbw : Below w.heap.size w w1 := hb.trans (hb1.mono hsz)
        have HO1 := Lib.hid (ownR_below HO.out hb1)
        have HV1 := Lib.hid (HV.out.go (kept_lo (Nat.le_trans hB hsz) (hb1.mono (Nat.le_trans hB hsz))))
        have HYS := Lib.hid hys
        have HYC := Lib.hid hyc
        have HYO := Lib.hid hyo
        have hc51 : w1.cell? ⟨w.heap.size, 5, none⟩ = some (.slice (some ⟨b, off, none⟩) ks.length cap) := by
          rw [hb1.cell (p := ⟨w.heap.size, 5, none⟩) (show w.heap.size < wr.heap.size from by omega)]; exact hc5
        have hsz1 : w.heap.size + 1 < w1.heap.size := Nat.lt_of_lt_of_le hgs hb1.size
        have hnum : m + L.length ≤ 1000000 := by
          have := HM.out; have := HAL.out; have := HST.out; have := HLE.out; omega
        clear c0 c1 c2 c3 c4 c5 hn1 hys hyc hyo hb1 hc5
        go_wp2_with (at_builtin; refine wpList_append_own _ rfl _ _ 22 rfl (w.heap.size + 1) 30 i0 _ 6 64 Tryd.underlying22 hi hz0 hz1 hz2'.out rfl (by decide) _ _ _ rfl HO1.out ⟨g, off1, none⟩ L.length cap1 ys rfl HYS.out.1 ?c1 HYO.out ?c3 ?c4 ?c5 ?_)
        case c1 => intro j u hj; rw [Go.WideShapes.add_plain]; exact HYC.out j u hj
        case c3 => unfold maxLen; omega
        case c4 => omega
        case c5 => omega
        intro v' w2 hown' hgrow _
        have hge := ownR_ge HO1.out
        have hb2 : Below w.heap.size w w2 := hbw.grown hgrow (by omega) (fun g hg => by have := hge g hg; omega)
        have hb2' : Below B w1 w2 := (Below.refl B w1).grown hgrow (by omega) (fun g hg => by have := hge g hg; omega)
        have hc52 : w2.cell? ⟨w.heap.size, 5, none⟩ = some (.slice (some ⟨b, off, none⟩) ks.length cap) := by
          rw [World.cell?_of_block (w := w1) (a := ⟨w.heap.size, 5, none⟩) (hgrow.block _ (by show w.heap.size < _; omega) (fun e => by have := hge _ e.symm; simp at this; omega))]; exact hc51
        have hsz2 : w.heap.size + 1 < w2.heap.size := Nat.lt_of_lt_of_le hsz1 hgrow.size
        have hvals : RowVals (Lo B) w2 (xs ++ ys) ((.node k ⟨sa, sb, sc, sd⟩ ks :: allRs (ks.take i)) ++ L) :=
          (HV1.out.go (kept_lo (by omega) hb2')).append (HYS.out.go (kept_lo (by omega) hb2'))
        have hm2 : m + L.length = 1 + Rx.sizes (ks.take (i + 1)) := by
          have := HM.out; have := HAL.out; have := HST.out; omega
        have HOW := Lib.hid hown'
        have HVL := Lib.hid hvals
        have HM2 := Lib.hid hm2
        clear hgrow hown' hvals hm2 hc51 hge hb2'
        go_wp2
        exact ⟨⟨i + 1, m + L.length, xs ++ ys, by omega, by go_num, HM2.out, hc52, hb2, hsz2, HOW.out, by rw [HTK.out]; exact HVL.out⟩, by simp [intOf]; omega⟩
      · have he : ks.take i = ks := List.take_of_length_le (by omega)
        rw [he] at HV HM
        rw [← HALL.out] at HV
        have hlen : m = (allR (.node k ⟨sa, sb, sc, sd⟩ ks)).length := by rw [HALL.out, List.length_cons, allRs_length, HM.out]; omega
        obtain ⟨g, cap2, hv, g1, g2, g3, g4⟩ := own_nodes (by rw [← hlen]; exact HO.out) HV.out (by rw [HALL.out]; simp)
        have G4 := Lib.hid g4
        subst hv
        generalize allR (.node k ⟨sa, sb, sc, sd⟩ ks) = L at *
        clear g4 he hlen
        go_wp2
        go_ret
        exact ⟨g, 0, cap2, rfl, by omega, g2, g3, G4.out, hb⟩
theorem allX (B : Nat) (r : Rx) (v : Value) (w : World) (hbig : r.size ≤ 1000000) (hB : B ≤ w.heap.size) (h : ReAt (Lo B) w v r) :
    Calls Tryd.prog 31 #[v] w (AllPost B (allR r) w) := all_any B r.size r (Nat.le_refl _) v w hbig hB h
end Go.Proofs.YtdkdgbiagjflgaaDoor
