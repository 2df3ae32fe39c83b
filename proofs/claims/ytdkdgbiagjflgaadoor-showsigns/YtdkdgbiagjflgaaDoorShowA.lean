/- quillref05's round and Of. -/
import Derived.Test.YtdkdgbiagjflgaaDoorShowN
import Derived.Test.YtdkdgbiagjflgaaDoorSetO
import Derived.Test.YtdkdgbiagjflgaaDoorRexC
import Derived.Test.YtdkdgbiagjflgaaDoorQuietB
namespace Go.Proofs.YtdkdgbiagjflgaaDoor
open Go.RowKit
theorem bytes_app (a b : List UInt8) : (⟨a.toArray⟩ : ByteArray) ++ ⟨b.toArray⟩ = ⟨(a ++ b).toArray⟩ := by
  apply ByteArray.ext
  simp
set_option maxHeartbeats 1000000 in
theorem round_any (s : List UInt8) (b : Bool) (w : World) (hs : s.length ≤ 4000000000) :
    Calls Tryd.prog 33 #[.string ⟨s.toArray⟩, .bool b] w fun e w' => e = .returned (.string ⟨(roundL s b).toArray⟩) ∧ w' = w := by
  cases b with
  | true =>
    go_enter Tryd.func33, Tryd.ntmps33
    go_wp2
    go_ret
    refine ⟨?_, rfl⟩
    show Ending.returned (.string (ByteArray.mk [40].toArray ++ ByteArray.mk s.toArray ++ ByteArray.mk [41].toArray)) = _
    rw [bytes_app, bytes_app]; rfl
  | false =>
    go_enter Tryd.func33, Tryd.ntmps33
    go_wp2
    go_ret
    exact ⟨rfl, rfl⟩
theorem rx_shape (a : Ex) : ∃ k s ks, a.rx = .node k s ks ∧ ((k : Int) == 4) = a.isSeq ∧ ((k : Int) == 5) = a.isAlt := by
  cases a <;> exact ⟨_, _, _, rfl, rfl, rfl⟩
def OfAt (ok : Nat → Prop) (N : Nat) : Prop := ∀ (e : Ex), e.size ≤ N → ∀ (v : Value) (w : World), e.Wf → e.size ≤ 1000000 → ReAt ok w v e.rx →
    Calls Tryd.prog 17 #[v] w fun x w' => x = .returned (.string ⟨e.text.toArray⟩) ∧ Below w.heap.size w w'
set_option maxHeartbeats 2000000 in
theorem of_star {ok : Nat → Prop} {N : Nat} (ih : OfAt ok N) (a : Ex) (hN : a.size ≤ N) (v : Value) (w : World) (wa : a.Wf) (hs : a.size ≤ 1000000) (hR : ReAt ok w v (Ex.star a).rx) :
    Calls Tryd.prog 17 #[v] w fun x w' => x = .returned (.string ⟨(Ex.star a).text.toArray⟩) ∧ Below w.heap.size w w' := by
  obtain ⟨_, _, al, cap, rfl, hcap, hmax, hrow⟩ := hR
  obtain ⟨b, off, hab, hblt, hnode⟩ := RowAt.kid hrow (i := 0) (by simp)
  subst hab
  simp only [List.getElem_cons_zero, Nat.zero_mul, Nat.add_zero] at hnode
  rw [text_star]
  have hlen := text_length a
  obtain ⟨ka, sa, ksa, hrx, h4, h5⟩ := rx_shape a
  have hit : a.item = roundL a.text (a.isSeq || a.isAlt) := rfl
  rw [hit]
  rw [hrx] at hnode
  obtain ⟨ta, tb, tc, td⟩ := sa
  obtain ⟨bl, bcap, ⟨c0, c1, c2, c3, c4, c5⟩, hre⟩ := hnode.read
  simp only at c0 c1 c2 c3 c4 c5
  rw [← hrx] at hre
  have KI := Lib.hid fun W (h : Below w.heap.size w W) => ih a hN _ W wa hs (hre.below h)
  generalize a.text = T at *
  generalize a.isSeq = q4 at *
  generalize a.isAlt = q5 at *
  have KR := Lib.hid fun W => round_any T (q4 || q5) W (by omega)
  have hl1 : (roundL T (q4 || q5)).length ≤ 4000000000 := by have := round_length T (q4 || q5); omega
  generalize roundL T (q4 || q5) = X at *
  clear hnode hre hrow ih hrx hit
  simp only [List.length_cons, List.length_nil, Nat.zero_add] at *
  go_enter Tryd.func17, Tryd.ntmps17
  go_wp2_with fail
  refine (KI.out _ (((Below.refl _ w).alloc (Nat.le_refl _) _).alloc (by simp) _)).mono ?_
  rintro e w1 ⟨rfl, hb1⟩
  have hbw : Below w.heap.size w w1 := (((Below.refl _ w).alloc (Nat.le_refl _) _).alloc (by simp) _).trans (hb1.mono (by simp; omega))
  have x0 : w1.cell? ⟨w.heap.size, 0, none⟩ = some (.int .u8 6) := by
    rw [Lib.cell_of_heap ((hb1.block _ (by simp; omega)).trans ((Below.heap_alloc _ _ _ (by simp)).trans (blk_new w _)))]; rfl
  have y0 : w1.cell? ⟨w.heap.size + 1, 0, none⟩ = some (.int .u8 ka) := by
    rw [Lib.cell_of_heap ((hb1.block _ (by simp)).trans (blk_at _ _ (by simp)))]; rfl
  clear hb1 c0 c1 c2 c3 c4 c5 KI
  have m1 : ¬ (9223372036854775807 < X.length + 1) := by omega
  have fin : Ending.returned (.string (ByteArray.mk X.toArray ++ ByteArray.mk [42].toArray)) = Ending.returned (.string ⟨(X ++ [42]).toArray⟩) := by rw [bytes_app]
  have FIN := Lib.hid fin
  clear fin
  cases q4 with
  | true =>
    simp only [Bool.true_or] at KR
    go_wp2_with fail
    refine (KR.out _).mono ?_
    rintro e w2 ⟨rfl, rfl⟩
    clear x0 y0
    go_wp2
    go_ret
    exact ⟨FIN.out, hbw⟩
  | false =>
    simp only [Bool.false_or] at KR
    cases q5 with
    | true =>
      go_wp2_with fail
      refine (KR.out _).mono ?_
      rintro e w2 ⟨rfl, rfl⟩
      clear x0 y0
      go_wp2
      go_ret
      exact ⟨FIN.out, hbw⟩
    | false =>
      go_wp2_with fail
      refine (KR.out _).mono ?_
      rintro e w2 ⟨rfl, rfl⟩
      clear x0 y0
      go_wp2
      go_ret
      exact ⟨FIN.out, hbw⟩
set_option maxHeartbeats 4000000 in
theorem of_alt {ok : Nat → Prop} {N : Nat} (ih : OfAt ok N) (a c : Ex) (hN : a.size ≤ N) (hN' : c.size ≤ N) (v : Value) (w : World) (wa : a.Wf) (wc : c.Wf) (hs : a.size ≤ 1000000) (hs' : c.size ≤ 1000000) (hR : ReAt ok w v (Ex.alt a c).rx) :
    Calls Tryd.prog 17 #[v] w fun x w' => x = .returned (.string ⟨(Ex.alt a c).text.toArray⟩) ∧ Below w.heap.size w w' := by
  obtain ⟨_, _, al, cap, rfl, hcap, hmax, hrow⟩ := hR
  obtain ⟨b, off, hab, hblt, hnode⟩ := RowAt.kid hrow (i := 0) (by simp)
  obtain ⟨b', off', hab', hblt', hnode'⟩ := RowAt.kid hrow (i := 1) (by simp)
  subst hab
  simp at hab'
  obtain ⟨rfl, rfl⟩ := hab'
  simp only [List.getElem_cons_zero, List.getElem_cons_succ, Nat.zero_mul, Nat.add_zero, Nat.one_mul] at hnode hnode'
  rw [text_alt]
  have hlen := text_length a
  have hlen' := text_length c
  obtain ⟨ka, sa, ksa, hrx, _, h5⟩ := rx_shape a
  obtain ⟨kc, sc, ksc, hrxc, _, _⟩ := rx_shape c
  have hit : a.part = roundL a.text a.isAlt := rfl
  rw [hit]
  rw [hrx] at hnode
  rw [hrxc] at hnode'
  obtain ⟨ta, tb, tc, td⟩ := sa
  obtain ⟨ta', tb', tc', td'⟩ := sc
  obtain ⟨bl, bcap, ⟨c0, c1, c2, c3, c4, c5⟩, hre⟩ := hnode.read
  obtain ⟨bl', bcap', hcc, hre'⟩ := hnode'.read
  simp only at c0 c1 c2 c3 c4 c5 hcc
  rw [← hrx] at hre
  rw [← hrxc] at hre'
  have KI := Lib.hid fun W (h : Below w.heap.size w W) => ih a hN _ W wa hs (hre.below h)
  have KJ := Lib.hid fun W (h : Below w.heap.size w W) => ih c hN' _ W wc hs' (hre'.below h)
  have HC := Lib.hid fun W (h : Below w.heap.size w W) => show (W.cell? ⟨b, off + 6, none⟩ = some (.int .u8 kc) ∧ W.cell? ⟨b, off + 6 + 1, none⟩ = some (.int .u64 ta') ∧ W.cell? ⟨b, off + 6 + 2, none⟩ = some (.int .u64 tb') ∧ W.cell? ⟨b, off + 6 + 3, none⟩ = some (.int .u64 tc') ∧ W.cell? ⟨b, off + 6 + 4, none⟩ = some (.int .u64 td') ∧ W.cell? ⟨b, off + 6 + 5, none⟩ = some (.slice bl' ksc.length bcap')) from by
    obtain ⟨d0, d1, d2, d3, d4, d5⟩ := hcc
    have e := fun o => h.cell (p := ⟨b, o, none⟩) hblt
    exact ⟨by rw [e]; exact d0, by rw [e]; exact d1, by rw [e]; exact d2, by rw [e]; exact d3, by rw [e]; exact d4, by rw [e]; exact d5⟩
  generalize a.text = T at *
  generalize c.text = U at *
  generalize a.isAlt = q5 at *
  have KR := Lib.hid fun W => round_any T q5 W (by omega)
  have hl1 : (roundL T q5).length ≤ 4000000000 := by have := round_length T q5; omega
  generalize roundL T q5 = X at *
  clear hnode hnode' hre hre' hrow ih hrx hrxc hit hcc
  simp only [List.length_cons, List.length_nil, Nat.zero_add] at *
  go_enter Tryd.func17, Tryd.ntmps17
  go_wp2_with fail
  refine (KI.out _ (((Below.refl _ w).alloc (Nat.le_refl _) _).alloc (by simp) _)).mono ?_
  rintro e w1 ⟨rfl, hb1⟩
  have hbw : Below w.heap.size w w1 := (((Below.refl _ w).alloc (Nat.le_refl _) _).alloc (by simp) _).trans (hb1.mono (by simp; omega))
  have hx := (hb1.block w.heap.size (by simp; omega)).trans ((Below.heap_alloc _ _ _ (by simp)).trans (blk_new w _))
  have hy := (hb1.block (w.heap.size + 1) (by simp)).trans (blk_at _ _ (by simp))
  obtain ⟨x0, x1, x2, x3, x4, x5, -⟩ := cellsR hx
  obtain ⟨y0, y1, y2, y3, y4, y5, -⟩ := cellsR hy
  obtain ⟨d0, d1, d2, d3, d4, d5⟩ := HC.out _ hbw
  clear c0 c1 c2 c3 c4 c5 KI
  have hgl : w.heap.size + 1 < w1.heap.size := (Array.getElem?_eq_some_iff.1 hy).1
  have hgl0 : w.heap.size < w1.heap.size := by omega
  obtain ⟨w2, hw2⟩ : ∃ w2, w2 = w1.alloc (.cells #[.int .u8 kc, .int .u64 ta', .int .u64 tb', .int .u64 tc', .int .u64 td', .slice bl' ksc.length bcap'] 30) := ⟨_, rfl⟩
  have hb2 : Below w1.heap.size w1 w2 := by rw [hw2]; exact (Below.refl _ w1).alloc (Nat.le_refl _) _
  have hz : w2.heap[w1.heap.size]? = some (.cells #[.int .u8 kc, .int .u64 ta', .int .u64 tb', .int .u64 tc', .int .u64 td', .slice bl' ksc.length bcap'] 30) := by rw [hw2]; exact blk_new w1 _
  have hy2 := (hb2.cell (p := ⟨w.heap.size + 1, 0, none⟩) hgl).trans y0
  have hzl : w1.heap.size < w2.heap.size := (Array.getElem?_eq_some_iff.1 hz).1
  obtain ⟨z0, z1, z2, z3, z4, z5, -⟩ := cellsR hz
  have u0 : ∀ p : Bel w2, p.x.cell? ⟨w.heap.size + 1, 0, none⟩ = some (.int .u8 ka) := bel_cell (show w.heap.size + 1 < w2.heap.size by omega) hy2
  have v0 : ∀ p : Bel w2, p.x.cell? ⟨w1.heap.size, 0, none⟩ = some (.int .u8 kc) := bel_cell hzl z0
  have v1 : ∀ p : Bel w2, p.x.cell? ⟨w1.heap.size, 1, none⟩ = some (.int .u64 ta') := bel_cell hzl z1
  have v2 : ∀ p : Bel w2, p.x.cell? ⟨w1.heap.size, 2, none⟩ = some (.int .u64 tb') := bel_cell hzl z2
  have v3 : ∀ p : Bel w2, p.x.cell? ⟨w1.heap.size, 3, none⟩ = some (.int .u64 tc') := bel_cell hzl z3
  have v4 : ∀ p : Bel w2, p.x.cell? ⟨w1.heap.size, 4, none⟩ = some (.int .u64 td') := bel_cell hzl z4
  have v5 : ∀ p : Bel w2, p.x.cell? ⟨w1.heap.size, 5, none⟩ = some (.slice bl' ksc.length bcap') := bel_cell hzl z5
  have hbw2 : Below w.heap.size w w2 := hbw.trans (hb2.mono hbw.size)
  have KJ2 := Lib.hid fun W (h : Below w2.heap.size w2 W) => KJ.out W (hbw2.trans (h.mono hbw2.size))
  have HW2 := Lib.hid hw2
  clear hb2 hz hy2 KJ hw2 z0 z1 z2 z3 z4 z5
  clear hb1 hx hy
  have m1 : ¬ (9223372036854775807 < X.length + 1) := by omega
  have m2 : ¬ (9223372036854775807 < X.length + 1 + U.length) := by omega
  have fin : Ending.returned (.string (ByteArray.mk X.toArray ++ ByteArray.mk [124].toArray ++ ByteArray.mk U.toArray)) = Ending.returned (.string ⟨(X ++ 124 :: U).toArray⟩) := by rw [bytes_app, bytes_app]; simp
  have FIN := Lib.hid fin
  clear fin
  go_wp2_with fail
  rw [← HW2.out]
  clear x0 x1 x2 x3 x4 x5 y0 y1 y2 y3 y4 y5 d0 d1 d2 d3 d4 d5 HW2 hbw
  have hne := bel_ne w2
  refine wp_region_bel (by kernel_rfl) (by kernel_rfl) ?_
  repeat (quiet_step (first | (go_at_call 33; with_reducible exact bel_same (KR.out _)) | (go_at_call 17; with_reducible exact bel_of (KJ2.out _ (Bel.h _)))))
  refine wpQuiet_nil ?_
  intro _ hw'
  obtain ⟨⟨x, hbx⟩, hw''⟩ := hw'
  subst hw''
  go_wp2
  go_ret
  exact ⟨FIN.out, hbw2.trans (hbx.mono hbw2.size)⟩
set_option maxHeartbeats 4000000 in
theorem of_seq {ok : Nat → Prop} {N : Nat} (ih : OfAt ok N) (a c : Ex) (hN : a.size ≤ N) (hN' : c.size ≤ N) (v : Value) (w : World) (wa : a.Wf) (wc : c.Wf) (hs : a.size ≤ 1000000) (hs' : c.size ≤ 1000000) (hR : ReAt ok w v (Ex.seq a c).rx) :
    Calls Tryd.prog 17 #[v] w fun x w' => x = .returned (.string ⟨(Ex.seq a c).text.toArray⟩) ∧ Below w.heap.size w w' := by
  obtain ⟨_, _, al, cap, rfl, hcap, hmax, hrow⟩ := hR
  obtain ⟨b, off, hab, hblt, hnode⟩ := RowAt.kid hrow (i := 0) (by simp)
  obtain ⟨b', off', hab', hblt', hnode'⟩ := RowAt.kid hrow (i := 1) (by simp)
  subst hab
  simp at hab'
  obtain ⟨rfl, rfl⟩ := hab'
  simp only [List.getElem_cons_zero, List.getElem_cons_succ, Nat.zero_mul, Nat.add_zero, Nat.one_mul] at hnode hnode'
  rw [text_seq]
  have hlen := text_length a
  have hlen' := text_length c
  obtain ⟨ka, sa, ksa, hrx, h4, h5⟩ := rx_shape a
  obtain ⟨kc, sc, ksc, hrxc, _, hc5⟩ := rx_shape c
  have hit : a.item = roundL a.text (a.isSeq || a.isAlt) := rfl
  have hit' : c.part = roundL c.text c.isAlt := rfl
  rw [hit, hit']
  rw [hrx] at hnode
  rw [hrxc] at hnode'
  obtain ⟨ta, tb, tc, td⟩ := sa
  obtain ⟨ta', tb', tc', td'⟩ := sc
  obtain ⟨bl, bcap, ⟨c0, c1, c2, c3, c4, c5⟩, hre⟩ := hnode.read
  obtain ⟨bl', bcap', hcc, hre'⟩ := hnode'.read
  simp only at c0 c1 c2 c3 c4 c5 hcc
  rw [← hrx] at hre
  rw [← hrxc] at hre'
  have KI := Lib.hid fun W (h : Below w.heap.size w W) => ih a hN _ W wa hs (hre.below h)
  have KJ := Lib.hid fun W (h : Below w.heap.size w W) => ih c hN' _ W wc hs' (hre'.below h)
  have HC := Lib.hid fun W (h : Below w.heap.size w W) => show (W.cell? ⟨b, off + 6, none⟩ = some (.int .u8 kc) ∧ W.cell? ⟨b, off + 6 + 1, none⟩ = some (.int .u64 ta') ∧ W.cell? ⟨b, off + 6 + 2, none⟩ = some (.int .u64 tb') ∧ W.cell? ⟨b, off + 6 + 3, none⟩ = some (.int .u64 tc') ∧ W.cell? ⟨b, off + 6 + 4, none⟩ = some (.int .u64 td') ∧ W.cell? ⟨b, off + 6 + 5, none⟩ = some (.slice bl' ksc.length bcap')) from by
    obtain ⟨d0, d1, d2, d3, d4, d5⟩ := hcc
    have e := fun o => h.cell (p := ⟨b, o, none⟩) hblt
    exact ⟨by rw [e]; exact d0, by rw [e]; exact d1, by rw [e]; exact d2, by rw [e]; exact d3, by rw [e]; exact d4, by rw [e]; exact d5⟩
  generalize a.text = T at *
  generalize c.text = U at *
  generalize a.isAlt = q5 at *
  generalize a.isSeq = q4 at *
  generalize c.isAlt = q6 at *
  have KR := Lib.hid fun W => round_any T (q4 || q5) W (by omega)
  have KR2 := Lib.hid fun W => round_any U q6 W (by omega)
  have hl1 : (roundL T (q4 || q5)).length ≤ 4000000000 := by have := round_length T (q4 || q5); omega
  have hl2 : (roundL U q6).length ≤ 4000000000 := by have := round_length U q6; omega
  generalize roundL T (q4 || q5) = X at *
  generalize roundL U q6 = Y at *
  clear hnode hnode' hre hre' hrow ih hrx hrxc hit hit' hcc
  simp only [List.length_cons, List.length_nil, Nat.zero_add] at *
  go_enter Tryd.func17, Tryd.ntmps17
  go_wp2_with fail
  refine (KI.out _ (((Below.refl _ w).alloc (Nat.le_refl _) _).alloc (by simp) _)).mono ?_
  rintro e w1 ⟨rfl, hb1⟩
  have hbw : Below w.heap.size w w1 := (((Below.refl _ w).alloc (Nat.le_refl _) _).alloc (by simp) _).trans (hb1.mono (by simp; omega))
  have hx := (hb1.block w.heap.size (by simp; omega)).trans ((Below.heap_alloc _ _ _ (by simp)).trans (blk_new w _))
  have hy := (hb1.block (w.heap.size + 1) (by simp)).trans (blk_at _ _ (by simp))
  obtain ⟨x0, x1, x2, x3, x4, x5, -⟩ := cellsR hx
  obtain ⟨y0, y1, y2, y3, y4, y5, -⟩ := cellsR hy
  obtain ⟨d0, d1, d2, d3, d4, d5⟩ := HC.out _ hbw
  clear c0 c1 c2 c3 c4 c5 KI
  have hgl : w.heap.size + 1 < w1.heap.size := (Array.getElem?_eq_some_iff.1 hy).1
  have hgl0 : w.heap.size < w1.heap.size := by omega
  obtain ⟨w2, hw2⟩ : ∃ w2, w2 = w1.alloc (.cells #[.int .u8 kc, .int .u64 ta', .int .u64 tb', .int .u64 tc', .int .u64 td', .slice bl' ksc.length bcap'] 30) := ⟨_, rfl⟩
  have hb2 : Below w1.heap.size w1 w2 := by rw [hw2]; exact (Below.refl _ w1).alloc (Nat.le_refl _) _
  have hz : w2.heap[w1.heap.size]? = some (.cells #[.int .u8 kc, .int .u64 ta', .int .u64 tb', .int .u64 tc', .int .u64 td', .slice bl' ksc.length bcap'] 30) := by rw [hw2]; exact blk_new w1 _
  have hy2 := (hb2.cell (p := ⟨w.heap.size + 1, 0, none⟩) hgl).trans y0
  have hzl : w1.heap.size < w2.heap.size := (Array.getElem?_eq_some_iff.1 hz).1
  obtain ⟨z0, z1, z2, z3, z4, z5, -⟩ := cellsR hz
  have u0 : ∀ p : Bel w2, p.x.cell? ⟨w.heap.size + 1, 0, none⟩ = some (.int .u8 ka) := bel_cell (show w.heap.size + 1 < w2.heap.size by omega) hy2
  have v0 : ∀ p : Bel w2, p.x.cell? ⟨w1.heap.size, 0, none⟩ = some (.int .u8 kc) := bel_cell hzl z0
  have v1 : ∀ p : Bel w2, p.x.cell? ⟨w1.heap.size, 1, none⟩ = some (.int .u64 ta') := bel_cell hzl z1
  have v2 : ∀ p : Bel w2, p.x.cell? ⟨w1.heap.size, 2, none⟩ = some (.int .u64 tb') := bel_cell hzl z2
  have v3 : ∀ p : Bel w2, p.x.cell? ⟨w1.heap.size, 3, none⟩ = some (.int .u64 tc') := bel_cell hzl z3
  have v4 : ∀ p : Bel w2, p.x.cell? ⟨w1.heap.size, 4, none⟩ = some (.int .u64 td') := bel_cell hzl z4
  have v5 : ∀ p : Bel w2, p.x.cell? ⟨w1.heap.size, 5, none⟩ = some (.slice bl' ksc.length bcap') := bel_cell hzl z5
  have hbw2 : Below w.heap.size w w2 := hbw.trans (hb2.mono hbw.size)
  have KJ2 := Lib.hid fun W (h : Below w2.heap.size w2 W) => KJ.out W (hbw2.trans (h.mono hbw2.size))
  have HW2 := Lib.hid hw2
  clear hb2 hz hy2 KJ hw2 z0 z1 z2 z3 z4 z5
  clear hb1 hx hy
  have m1 : ¬ (9223372036854775807 < X.length + Y.length) := by omega
  have fin : Ending.returned (.string (ByteArray.mk X.toArray ++ ByteArray.mk Y.toArray)) = Ending.returned (.string ⟨(X ++ Y).toArray⟩) := by rw [bytes_app]
  have FIN := Lib.hid fin
  clear fin
  go_wp2_with fail
  rw [← HW2.out]
  clear x0 x1 x2 x3 x4 x5 y0 y1 y2 y3 y4 y5 d0 d1 d2 d3 d4 d5 HW2 hbw
  cases q4 with
  | true =>
    simp only [Bool.true_or] at KR
    have hne := bel_ne w2
    refine wp_region_bel (by kernel_rfl) (by kernel_rfl) ?_
    repeat (quiet_step (first | (go_at_call 33; with_reducible exact bel_same (KR.out _)) | (go_at_call 33; with_reducible exact bel_same (KR2.out _)) | (go_at_call 17; with_reducible exact bel_of (KJ2.out _ (Bel.h _)))))
    refine wpQuiet_nil ?_
    intro _ hw'
    obtain ⟨⟨x, hbx⟩, hw''⟩ := hw'
    subst hw''
    go_wp2
    go_ret
    exact ⟨FIN.out, hbw2.trans (hbx.mono hbw2.size)⟩
  | false =>
    simp only [Bool.false_or] at KR
    have hne := bel_ne w2
    refine wp_region_bel (by kernel_rfl) (by kernel_rfl) ?_
    repeat (quiet_step (first | (go_at_call 33; with_reducible exact bel_same (KR.out _)) | (go_at_call 33; with_reducible exact bel_same (KR2.out _)) | (go_at_call 17; with_reducible exact bel_of (KJ2.out _ (Bel.h _)))))
    refine wpQuiet_nil ?_
    intro _ hw'
    obtain ⟨⟨x, hbx⟩, hw''⟩ := hw'
    subst hw''
    go_wp2
    go_ret
    exact ⟨FIN.out, hbw2.trans (hbx.mono hbw2.size)⟩
set_option maxHeartbeats 2000000 in
theorem of_any (ok : Nat → Prop) (N : Nat) : OfAt ok N := by
  induction N with
  | zero =>
    intro e he
    have : 0 < e.size := by cases e <;> simp [Ex.size] <;> omega
    omega
  | succ N ih =>
    intro e he v w we hbig hR
    cases e with
    | empty =>
      obtain ⟨_, _, al, cap, rfl, hcap, hmax, hrow⟩ := hR
      go_enter Tryd.func17, Tryd.ntmps17
      go_wp2
      go_ret
      exact ⟨rfl, (Below.refl _ w).alloc (Nat.le_refl _) _⟩
    | eps =>
      obtain ⟨_, _, al, cap, rfl, hcap, hmax, hrow⟩ := hR
      go_enter Tryd.func17, Tryd.ntmps17
      go_wp2
      go_ret
      exact ⟨rfl, (Below.refl _ w).alloc (Nat.le_refl _) _⟩
    | cls s =>
      obtain ⟨_, _, al, cap, rfl, hcap, hmax, hrow⟩ := hR
      have K := Lib.hid fun W => refText_any s W we.1
      have ht : (Ex.cls s).text = textW s := rfl
      rw [ht]
      obtain ⟨sa, sb, sc, sd⟩ := s
      generalize textW ⟨sa, sb, sc, sd⟩ = T at *
      unfold Ws.v at K
      simp only at K
      clear ht
      go_enter Tryd.func17, Tryd.ntmps17
      go_wp2_with fail
      refine (K.out _).mono ?_
      rintro e w1 ⟨rfl, hb1⟩
      have hbw : Below w.heap.size w w1 := ((Below.refl _ w).alloc (Nat.le_refl _) _).trans (hb1.mono (by simp))
      clear hb1
      go_wp2
      go_ret
      exact ⟨rfl, hbw⟩
    | seq a c =>
      have hz : (Ex.seq a c).size = 1 + a.size + c.size := rfl
      exact of_seq ih a c (by omega) (by omega) v w we.1 we.2 (by omega) (by omega) hR
    | alt a c =>
      have hz : (Ex.alt a c).size = 1 + a.size + c.size := rfl
      exact of_alt ih a c (by omega) (by omega) v w we.1 we.2 (by omega) (by omega) hR
    | star a =>
      have hz : (Ex.star a).size = 1 + a.size := rfl
      exact of_star ih a (by omega) v w we (by omega) hR
theorem refOfX {ok : Nat → Prop} (e : Ex) (v : Value) (w : World) (we : e.Wf) (hbig : e.size ≤ 1000000) (h : ReAt ok w v e.rx) :
    Calls Tryd.prog 17 #[v] w fun x w' => x = .returned (.string ⟨e.text.toArray⟩) ∧ Below w.heap.size w w' := of_any ok e.size e (Nat.le_refl _) v w we hbig h
end Go.Proofs.YtdkdgbiagjflgaaDoor
