/- quilllaw02.SetMany, walked. -/
import Derived.Test.YtfjagcfbnnbpeaaDoorSetAw
import Derived.Test.YtfjagcfbnnbpeaaDoorSetP
import Derived.Test.YtfjagcfbnnbpeaaDoorSetBackW
namespace Go.Proofs.YtfjagcfbnnbpeaaDoor
open Go.RowKit
theorem range_full : rangeW 0 255 = Ws.full := by
  apply Ws.has_ext (ofN_ok _) Ws.full_ok
  intro n hn
  show (ofN (List.range' 0 256)).has n = _
  rw [has_ofN _ (by intro x hx; simp [List.mem_range'_1] at hx; omega) n hn, Ws.has_full]
  simp [List.mem_range'_1]; omega
def manyInv (l : List Ws) (w : World) (g : Nat) (v i : Value) (wr : World) : Prop := ∃ (k n : Nat) (J M : Ws), k ≤ l.length ∧ n = cntL (l.take k) ∧ J = (l.take k).foldl Ws.join Ws.nil ∧ M = (l.take k).foldl Ws.meet Ws.full ∧ v = .int .i64 n ∧ i = .int .i64 k ∧ Box wr g J ∧ Box wr (g + 1) M ∧ Below w.heap.size w wr
set_option maxHeartbeats 2000000 in
set_option maxRecDepth 100000 in
theorem setMany_walk (al : Option Addr) (l : List Ws) (cap : Nat) (w : World) (h : SetsAt w al l) (hT : Tab w) :
    Calls Tryd.prog 5 #[.slice al l.length cap] w fun e w' => e = .returned (.bool true) ∧ Below w.heap.size w w' := by
  have HT := Lib.hid hT
  have hS := Lib.hid h
  have hl := h.1
  unfold maxLen at hl
  clear hT h
  by_cases h20 : 20 < l.length
  · have d1 : decide ((20 : Int) < (l.length : Int)) = true := by simp; omega
    go_enter Tryd.func5, Tryd.ntmps5
    go_wp2_with fail
    refine (awake_any _ HT.out).mono ?_
    rintro e w1 ⟨rfl, hb⟩
    go_wp2
    go_ret
    exact ⟨rfl, hb⟩
  have d1 : decide ((20 : Int) < (l.length : Int)) = false := by simp; omega
  go_enter Tryd.func5, Tryd.ntmps5
  go_wp2_with fail
  refine (refRange_any 0 255 _ (by decide) (by decide)).mono ?_
  rw [range_full]
  rintro e w1 ⟨rfl, hb1⟩
  have hv : Ws.full.v = .agg #[.int .u64 18446744073709551615, .int .u64 18446744073709551615, .int .u64 18446744073709551615, .int .u64 18446744073709551615] := rfl
  rw [hv]
  clear hv
  have hg := hb1.size
  go_wp2
  go_loopw [5, 6] (fun v i wr => manyInv l w w1.heap.size v i wr) (fun _ i _ => l.length - (intOf i).toNat)
  case atStart =>
    refine ⟨0, 0, Ws.nil, Ws.full, Nat.zero_le _, rfl, rfl, rfl, rfl, rfl, (Box.zero w1).alloc _, ?_, (hb1.alloc hg _).alloc (by simp; omega) _⟩
    have := Box.new4 (w1.alloc (.cells #[.int .u64 0, .int .u64 0, .int .u64 0, .int .u64 0] 26)) 18446744073709551615 18446744073709551615 18446744073709551615 18446744073709551615
    simp only [World.size_alloc] at this
    exact this
  case round =>
    obtain ⟨k, n, J, M, hk, hn, hJ, hM, rfl, rfl, hx, hy, hb⟩ := hrel
    have hsz := hb.size
    have oJ : J.Ok := by
      rw [hJ]
      exact fold_ok (fun s t hs ht => Ws.join_ok hs ht) Ws.nil_ok fun s hs => hS.out.2.1 s (List.mem_of_mem_take hs)
    have oM : M.Ok := by
      rw [hM]
      exact fold_ok (fun s t hs ht => Ws.meet_ok hs t) Ws.full_ok fun s hs => hS.out.2.1 s (List.mem_of_mem_take hs)
    have hnl : n ≤ 256000 := by
      have := cntL_le (l.take k)
      rw [List.length_take] at this; omega
    have HN := Lib.hid hn
    have HJ := Lib.hid hJ
    have HM := Lib.hid hM
    clear hn hJ hM
    by_cases hlt : k < l.length
    · obtain ⟨b, off, t, hab, hblt, hlk, htk, z0, z1, z2, z3⟩ := hS.out.elem hb hlt
      have hnx := cntL_take hlk
      have hjx := fold_take (f := Ws.join) (z := Ws.nil) hlk
      have hmx := fold_take (f := Ws.meet) (z := Ws.full) hlk
      rw [← HN.out] at hnx
      rw [← HJ.out] at hjx
      rw [← HM.out] at hmx
      subst hab
      have kJ := fun W => refJoin_any J t W oJ htk
      have kM := fun W => refMeet_any M t W oM htk
      have kB := fun W => refBytes_any t W htk
      have hbl := bytesN_length_le t
      have hul : (u8s (bytesN t)).length = (bytesN t).length := u8s_length _
      generalize J.join t = J' at *
      generalize M.meet t = M' at *
      generalize u8s (bytesN t) = L8 at *
      generalize (bytesN t).length = c at *
      have HNX := Lib.hid hnx
      have HJX := Lib.hid hjx
      have HMX := Lib.hid hmx
      have HUL := Lib.hid hul
      obtain ⟨ta, tb, tc, td⟩ := t
      obtain ⟨ja, jb, jc, jd⟩ := J
      obtain ⟨ma, mb, mc, md⟩ := M
      obtain ⟨ja', jb', jc', jd'⟩ := J'
      obtain ⟨ma', mb', mc', md'⟩ := M'
      unfold Ws.v at kJ kM kB
      have KJ := Lib.hid kJ
      have KM := Lib.hid kM
      have KB := Lib.hid kB
      clear hnx hjx hmx hul kJ kM kB HN HJ HM hlk oJ oM htk
      have hkl : (k : Int) < (l.length : Int) := by omega
      obtain ⟨⟨c0, c1, c2, c3⟩, -⟩ := hx.all
      simp only at c0 c1 c2 c3 z0 z1 z2 z3
      have HZ : Hid (∀ x, Below w.heap.size w x → x.cell? ⟨b, off + k * 4, none⟩ = some (.int .u64 ta) ∧ x.cell? ⟨b, off + k * 4 + 1, none⟩ = some (.int .u64 tb) ∧ x.cell? ⟨b, off + k * 4 + 2, none⟩ = some (.int .u64 tc) ∧ x.cell? ⟨b, off + k * 4 + 3, none⟩ = some (.int .u64 td)) := by
        refine Lib.hid fun x hbx => ?_
        rw [hbx.cell (p := ⟨b, off + k * 4, none⟩) hblt, hbx.cell (p := ⟨b, off + k * 4 + 1, none⟩) hblt, hbx.cell (p := ⟨b, off + k * 4 + 2, none⟩) hblt, hbx.cell (p := ⟨b, off + k * 4 + 3, none⟩) hblt]
        rw [hb.cell (p := ⟨b, off + k * 4, none⟩) hblt] at z0
        rw [hb.cell (p := ⟨b, off + k * 4 + 1, none⟩) hblt] at z1
        rw [hb.cell (p := ⟨b, off + k * 4 + 2, none⟩) hblt] at z2
        rw [hb.cell (p := ⟨b, off + k * 4 + 3, none⟩) hblt] at z3
        exact ⟨z0, z1, z2, z3⟩
      go_wp2_with fail
      go_still_tail 5, (by kernel_rfl)
      change wpList _ _ _ _ _ wr.drew
      replace hx : Box wr.drew w1.heap.size ⟨ja, jb, jc, jd⟩ := hx
      replace hy : Box wr.drew (w1.heap.size + 1) ⟨ma, mb, mc, md⟩ := hy
      replace hb : Below w.heap.size w wr.drew := hb.drew
      clear c0 c1 c2 c3 z0 z1 z2 z3 hsz
      generalize wr.drew = W2 at *
      go_wp2_with fail
      refine (KJ.out _).mono ?_
      rintro e w3 ⟨rfl, hb3⟩
      replace hx := hx.below hb3 hx.lt
      replace hy := hy.below hb3 hy.lt
      replace hb := hb.trans (hb3.mono hb.size)
      clear hb3
      obtain ⟨⟨c0, c1, c2, c3⟩, f0, f1, f2, f3⟩ := hx.all
      have hx' := hx.put4 ja' jb' jc' jd'
      have hne : w1.heap.size + 1 ≠ w1.heap.size := by omega
      have hy' := (((hy.far (p := ⟨w1.heap.size, 0, none⟩) hne (.int .u64 ja')).far (p := ⟨w1.heap.size, 1, none⟩) hne (.int .u64 jb')).far (p := ⟨w1.heap.size, 2, none⟩) hne (.int .u64 jc')).far (p := ⟨w1.heap.size, 3, none⟩) hne (.int .u64 jd')
      have hb' := below_put hb hg (.int .u64 ja') (.int .u64 jb') (.int .u64 jc') (.int .u64 jd')
      go_wp2_with fail
      generalize ((((w3.setCell ⟨w1.heap.size, 0, none⟩ (.int .u64 ja')).setCell ⟨w1.heap.size, 1, none⟩ (.int .u64 jb')).setCell ⟨w1.heap.size, 2, none⟩ (.int .u64 jc')).setCell ⟨w1.heap.size, 3, none⟩ (.int .u64 jd')) = W4 at *
      clear c0 c1 c2 c3 f0 f1 f2 f3 hx hy hb
      obtain ⟨z0, z1, z2, z3⟩ := HZ.out _ hb'
      obtain ⟨⟨c0, c1, c2, c3⟩, -⟩ := hy'.all
      simp only at c0 c1 c2 c3
      go_still_tail 5, (by kernel_rfl)
      change wpList _ _ _ _ _ W4.drew
      replace hx' : Box W4.drew w1.heap.size ⟨ja', jb', jc', jd'⟩ := hx'
      replace hy' : Box W4.drew (w1.heap.size + 1) ⟨ma, mb, mc, md⟩ := hy'
      replace hb' : Below w.heap.size w W4.drew := hb'.drew
      clear c0 c1 c2 c3 z0 z1 z2 z3
      generalize W4.drew = W5 at *
      go_wp2_with fail
      refine (KM.out _).mono ?_
      rintro e w6 ⟨rfl, hb6⟩
      replace hx' := hx'.below hb6 hx'.lt
      replace hy' := hy'.below hb6 hy'.lt
      replace hb' := hb'.trans (hb6.mono hb'.size)
      clear hb6
      obtain ⟨⟨c0, c1, c2, c3⟩, f0, f1, f2, f3⟩ := hy'.all
      have hy7 := hy'.put4 ma' mb' mc' md'
      have hne' : w1.heap.size ≠ w1.heap.size + 1 := by omega
      have hx7 := (((hx'.far (p := ⟨w1.heap.size + 1, 0, none⟩) hne' (.int .u64 ma')).far (p := ⟨w1.heap.size + 1, 1, none⟩) hne' (.int .u64 mb')).far (p := ⟨w1.heap.size + 1, 2, none⟩) hne' (.int .u64 mc')).far (p := ⟨w1.heap.size + 1, 3, none⟩) hne' (.int .u64 md')
      have hb7 := below_put hb' (show w.heap.size ≤ w1.heap.size + 1 by omega) (.int .u64 ma') (.int .u64 mb') (.int .u64 mc') (.int .u64 md')
      obtain ⟨z0, z1, z2, z3⟩ := HZ.out _ hb7
      go_wp2_with fail
      refine (KB.out _).mono ?_
      rintro e w8 ⟨al2, cap2, rfl, -, hb8, -⟩
      have hul := HUL.out
      rw [hul]
      clear hul c0 c1 c2 c3 f0 f1 f2 f3 z0 z1 z2 z3
      replace hx7 := hx7.below hb8 hx7.lt
      replace hy7 := hy7.below hb8 hy7.lt
      replace hb7 := hb7.trans (hb8.mono hb7.size)
      clear hx' hy' hb' hb8
      go_wp2
      refine ⟨⟨k + 1, n + c, _, _, by omega, HNX.out.symm, HJX.out.symm, HMX.out.symm, by go_num, by go_num, hx7, hy7, hb7⟩, by simp [intOf]; omega⟩
    · have he : l.take k = l := List.take_of_length_le (by omega)
      rw [he] at HN HJ HM
      clear he
      have hkl : ¬ (k : Int) < (l.length : Int) := by omega
      have q1 := eqW_yes J
      have q2 := eqW_yes M
      have kJ := fun W (h : SetsAt W al l) => join_any al l cap W h
      have kM := fun W (h : SetsAt W al l) => meet_any al l cap W h
      have kC := fun W (h : SetsAt W al l) => count_any al l cap W h (by omega)
      rw [← HJ.out] at kJ
      rw [← HM.out] at kM
      rw [← HN.out] at kC
      have hTW := HT.out.below hb HT.out.1
      have hSW := hS.out.below hb
      obtain ⟨ja, jb, jc, jd⟩ := J
      obtain ⟨ma, mb, mc, md⟩ := M
      unfold Ws.v at q1 q2 kJ kM
      have KJ := Lib.hid kJ
      have KM := Lib.hid kM
      have KC := Lib.hid kC
      have HTW := Lib.hid hTW
      have HSW := Lib.hid hSW
      have HB0 := Lib.hid hx
      have HB1 := Lib.hid hy
      clear kJ kM kC hTW hSW hx hy HN HJ HM HT hS oJ oM
      go_wp2_with fail
      go_region_held3 (fun x => (x.cell? ⟨w1.heap.size, 0, none⟩ = some (.int .u64 ja) ∧ x.cell? ⟨w1.heap.size, 1, none⟩ = some (.int .u64 jb) ∧ x.cell? ⟨w1.heap.size, 2, none⟩ = some (.int .u64 jc) ∧ x.cell? ⟨w1.heap.size, 3, none⟩ = some (.int .u64 jd)) ∧ (x.cell? ⟨w1.heap.size + 1, 0, none⟩ = some (.int .u64 ma) ∧ x.cell? ⟨w1.heap.size + 1, 1, none⟩ = some (.int .u64 mb) ∧ x.cell? ⟨w1.heap.size + 1, 2, none⟩ = some (.int .u64 mc) ∧ x.cell? ⟨w1.heap.size + 1, 3, none⟩ = some (.int .u64 md)) ∧ Below wr.heap.size wr x) (first | assumption | exact ⟨HB0.out.cells, HB1.out.cells, (Below.refl _ _).drew⟩ | exact keep2 HB0.out HB1.out (And.right (And.right (by assumption))) (by assumption))
        (first
          | (go_at_call 15; (with_reducible refine (KJ.out _ ?_).mono ?_); (exact HSW.out.below (And.right (And.right (by assumption)))); rintro e w' ⟨rfl, hbb⟩)
          | (go_at_call 17; (with_reducible refine (KM.out _ ?_).mono ?_); (exact HSW.out.below (And.right (And.right (by assumption)))); rintro e w' ⟨rfl, hbb⟩)
          | (go_at_call 23; (with_reducible refine (KC.out _ ?_).mono ?_); (exact HSW.out.below (And.right (And.right (by assumption)))); rintro e w' ⟨rfl, hbb⟩)
          | (go_at_call 8; (refine (awake_any _ ?_).mono ?_); (exact HTW.out.below (And.right (And.right (by assumption))) HTW.out.1); rintro e w' ⟨rfl, hbb⟩))
      all_goals
        obtain ⟨-, -, hbx⟩ := ‹_ ∧ _ ∧ Below wr.heap.size wr _›
        go_wp2
        go_ret
        exact ⟨rfl, hb.trans (hbx.mono hsz)⟩
end Go.Proofs.YtfjagcfbnnbpeaaDoor
