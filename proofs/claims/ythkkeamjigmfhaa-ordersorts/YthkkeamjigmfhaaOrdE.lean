/- quillref04's Sort. -/
import Derived.Test.YthkkeamjigmfhaaOrdD
namespace Go.Proofs.Ythkkeamjigmfhaa
open Go.RowKit
def sortInv (B : Nat) (l : List Rx) (w : World) (v y : Value) (wr : World) : Prop := ∃ (i : Nat) (O : List Rx) (al : Option Addr) (cap : Nat), i ≤ l.length ∧ y = .int .i64 i ∧ O = sortR (l.take i) ∧ v = .slice al O.length cap ∧ O.length ≤ cap ∧ OutAt w.heap.size B wr al O ∧ Below w.heap.size w wr
def putInv (B : Nat) (r : Rx) (O : List Rx) (wr : World) (v d y : Value) (wi : World) : Prop := ∃ (k n : Nat) (dn : Bool) (M : List Rx) (xs : List Value), k ≤ O.length ∧ y = .int .i64 k ∧ d = .bool dn ∧ insAt r O M k dn ∧ n = M.length ∧ n ≤ k + 1 ∧ Below wr.heap.size wr wi ∧ wr.heap.size ≤ wi.heap.size ∧ wi.ownsRow wr.heap.size 27 6 v n xs ∧ RowVals (Lo B) wi xs M
set_option maxHeartbeats 8000000 in
theorem refSort_any (B : Nat) (l : List Rx) (al : Option Addr) (cap : Nat) (w : World) (hl : l.length ≤ 1000000) (hB : B ≤ w.heap.size) (hR : RowAt (Lo B) w al l) :
    Calls Try.prog 17 #[.slice al l.length cap] w (RowPost B (sortR l) w) := by
  obtain ⟨i0, hi, hz0, hz1, hz2⟩ := info_parts infoR
  have hz2' := Lib.hid hz2
  have HR := Lib.hid hR
  clear hz2 hR
  go_enter Try.func17, Try.ntmps17
  go_wp2
  go_loopw [3, 11] (fun v y wr => sortInv B l w v y wr) (fun _ y _ => l.length - (intOf y).toNat)
  case atStart => exact ⟨0, [], some ⟨w.heap.size, 0, none⟩, 0, Nat.zero_le _, rfl, by simp [sortR], rfl, Nat.le_refl _, .inl rfl, (Below.refl _ w).alloc (Nat.le_refl _) _⟩
  case round =>
    obtain ⟨i, O, alO, capO, hii, rfl, hO, rfl, hcapO, hout, hb⟩ := hrel
    obtain ⟨wo, hwo⟩ : ∃ wo, wo = wr := ⟨_, rfl⟩
    subst hwo
    have hOl : O.length = i := by rw [hO, sortR_length, List.length_take]; omega
    have HEQ := Lib.hid hO
    have HOUT := Lib.hid hout
    have HOL := Lib.hid hOl
    have hsz := hb.size
    clear hO hout
    by_cases hlt : i < l.length
    · obtain ⟨b, off, hab, hblt, hnode⟩ := HR.out.kid hlt
      subst hab
      have hst := sort_take l i hlt
      rw [← HEQ.out] at hst
      have hkr := NodeAt.below hb _ hblt hnode
      generalize l[i] = kid at *
      obtain ⟨k', ⟨ta, tb, tc, td⟩, ks'⟩ := kid
      obtain ⟨al', cap', ⟨c0r, c1r, c2r, c3r, c4r, c5r⟩, hre⟩ := hkr.read
      simp only at c0r c1r c2r c3r c4r c5r
      have hbr : b < wo.heap.size := Nat.lt_of_lt_of_le hblt hsz
      have hcr : ∀ W, Below wo.heap.size wo W → (W.cell? ⟨b, off + i * 6, none⟩ = some (.int .u8 k') ∧ W.cell? ⟨b, off + i * 6 + 1, none⟩ = some (.int .u64 ta) ∧ W.cell? ⟨b, off + i * 6 + 2, none⟩ = some (.int .u64 tb) ∧ W.cell? ⟨b, off + i * 6 + 3, none⟩ = some (.int .u64 tc) ∧ W.cell? ⟨b, off + i * 6 + 4, none⟩ = some (.int .u64 td) ∧ W.cell? ⟨b, off + i * 6 + 5, none⟩ = some (.slice al' ks'.length cap')) := fun W hW => by
        have e := fun o => hW.cell (p := ⟨b, o, none⟩) hbr
        exact ⟨by rw [e]; exact c0r, by rw [e]; exact c1r, by rw [e]; exact c2r, by rw [e]; exact c3r, by rw [e]; exact c4r, by rw [e]; exact c5r⟩
      have HCR := Lib.hid hcr
      have HRE := Lib.hid hre
      have HST := Lib.hid hst
      clear c0r c1r c2r c3r c4r c5r hcr hre hnode hkr hst
      generalize Rx.node k' ⟨ta, tb, tc, td⟩ ks' = r at *
      have q1 : (i : Int) < (l.length : Int) := by omega
      have hBr : B ≤ wo.heap.size := Nat.le_trans hB hsz
      go_wp2
      go_loopw [5, 6, 17] (fun v d y wr => putInv B r O wo v d y wr) (fun _ _ y _ => O.length - (intOf y).toNat)
      case atStart => exact ⟨0, 0, false, [], [], Nat.zero_le _, rfl, rfl, insAt_start r O, rfl, by omega, (Below.refl _ wo).alloc (Nat.le_refl _) _, by simp, ⟨rfl, .inr ⟨wo.heap.size, 0, #[], rfl, Nat.le_refl _, blk_new wo _, Nat.le_refl _, Nat.zero_le _, rfl, rfl⟩⟩, RowVals.nil _ _⟩
      case round =>
        obtain ⟨k, n, dn, M, xs, hk, rfl, rfl, hins, hn, hnk, hbi, hsi, hown, hvals⟩ := hrel
        have HO := Lib.hid hown
        have HV := Lib.hid hvals
        have HI := Lib.hid hins
        have HN := Lib.hid hn
        clear hown hvals hins hn
        by_cases hkl : k < O.length
        · obtain ⟨g, off2, hag, hglt0, hno⟩ := HOUT.out.kid hkl
          subst hag
          have s1 := fun (h : insAt r O M k true) => insAt_done h hkl
          have s2 := fun (h : insAt r O M k false) hc => insAt_go h hkl hc
          have s3 := fun (h : insAt r O M k false) hc => insAt_put h hkl hc
          generalize O[k] = o at *
          obtain ⟨u0, ⟨u1, u2, u3, u4⟩, us⟩ := o
          obtain ⟨ul, uc, ⟨f0, f1, f2, f3, f4, f5⟩, hro0⟩ := hno.read
          simp only at f0 f1 f2 f3 f4 f5
          have hglt : g < wr.heap.size := Nat.lt_of_lt_of_le hglt0 hsi
          have HCO := Lib.hid fun W (hW : Below wo.heap.size wo W) => show (W.cell? ⟨g, off2 + k * 6, none⟩ = some (.int .u8 u0) ∧ W.cell? ⟨g, off2 + k * 6 + 1, none⟩ = some (.int .u64 u1) ∧ W.cell? ⟨g, off2 + k * 6 + 2, none⟩ = some (.int .u64 u2) ∧ W.cell? ⟨g, off2 + k * 6 + 3, none⟩ = some (.int .u64 u3) ∧ W.cell? ⟨g, off2 + k * 6 + 4, none⟩ = some (.int .u64 u4) ∧ W.cell? ⟨g, off2 + k * 6 + 5, none⟩ = some (.slice ul us.length uc)) from by
            have e := fun o => hW.cell (p := ⟨g, o, none⟩) hglt0
            exact ⟨by rw [e]; exact f0, by rw [e]; exact f1, by rw [e]; exact f2, by rw [e]; exact f3, by rw [e]; exact f4, by rw [e]; exact f5⟩
          have HR0 := Lib.hid hro0
          have hro := hro0.below hbi
          obtain ⟨e0, e1, e2, e3, e4, e5⟩ := HCO.out _ hbi
          clear f0 f1 f2 f3 f4 f5 hro0
          obtain ⟨c0, c1, c2, c3, c4, c5⟩ := HCR.out _ hbi
          have KEEP := Lib.hid fun x (hx : Below wr.heap.size wr x) => show ((x.cell? ⟨b, off + i * 6, none⟩ = some (.int .u8 k') ∧ x.cell? ⟨b, off + i * 6 + 1, none⟩ = some (.int .u64 ta) ∧ x.cell? ⟨b, off + i * 6 + 2, none⟩ = some (.int .u64 tb) ∧ x.cell? ⟨b, off + i * 6 + 3, none⟩ = some (.int .u64 tc) ∧ x.cell? ⟨b, off + i * 6 + 4, none⟩ = some (.int .u64 td) ∧ x.cell? ⟨b, off + i * 6 + 5, none⟩ = some (.slice al' ks'.length cap')) ∧ (x.cell? ⟨g, off2 + k * 6, none⟩ = some (.int .u8 u0) ∧ x.cell? ⟨g, off2 + k * 6 + 1, none⟩ = some (.int .u64 u1) ∧ x.cell? ⟨g, off2 + k * 6 + 2, none⟩ = some (.int .u64 u2) ∧ x.cell? ⟨g, off2 + k * 6 + 3, none⟩ = some (.int .u64 u3) ∧ x.cell? ⟨g, off2 + k * 6 + 4, none⟩ = some (.int .u64 u4) ∧ x.cell? ⟨g, off2 + k * 6 + 5, none⟩ = some (.slice ul us.length uc))) ∧ Below wr.heap.size wr x from by
            have ec := HCR.out x (hbi.trans (hx.mono hsi))
            have eo := fun o => hx.cell (p := ⟨g, o, none⟩) hglt
            exact ⟨⟨ec, by rw [eo]; exact e0, by rw [eo]; exact e1, by rw [eo]; exact e2, by rw [eo]; exact e3, by rw [eo]; exact e4, by rw [eo]; exact e5⟩, hx⟩
          have HRO := Lib.hid hro
          have K2 := Lib.hid fun W (h : Below wr.heap.size wr W) => refTwoX r _ _ _ W ((HRE.out.below hbi).below h) (hro.below h)
          generalize Rx.node u0 ⟨u1, u2, u3, u4⟩ us = o at *
          generalize ordR r o = q at *
          have S1 := Lib.hid s1
          have S2 := Lib.hid s2
          have S3 := Lib.hid s3
          have q2 : (k : Int) < (O.length : Int) := by omega
          clear s1 s2 s3 hno hro e0 e1 e2 e3 e4 e5 c0 c1 c2 c3 c4 c5
          cases dn with
          | true =>
            go_wp2_with fail
            go_quiet (fail)
            have hbx : Below wr.heap.size wr (wr.drewN nq) := below_drewN (Below.refl _ _) nq
            generalize wr.drewN nq = x at hbx ⊢
            obtain ⟨⟨⟨c0, c1, c2, c3, c4, c5⟩, ⟨e0, e1, e2, e3, e4, e5⟩⟩, -⟩ := KEEP.out _ hbx
            have HO1 := Lib.hid (ownR_below HO.out hbx)
            have HV1 := Lib.hid (HV.out.go (kept_lo (by omega) (hbx.mono (by omega))))
            have HRX := Lib.hid ((HRE.out.below hbi).below hbx)
            have HOX := Lib.hid (HRO.out.below hbx)
            have hgx : g < x.heap.size := Nat.lt_of_lt_of_le hglt hbx.size
            replace hbi := hbi.trans (hbx.mono hsi)
            replace hsi := hbi.size
            clear hbx
            go_wp2_with (at_builtin; refine wpList_append_own _ rfl _ _ 25 rfl wo.heap.size 27 i0 _ 6 64 Try.underlying25 hi hz0 hz1 hz2'.out rfl (by decide) _ _ _ rfl (HO1.out.alloc _) ⟨x.heap.size, 0, none⟩ 1 1 [.int .u8 u0, .int .u64 u1, .int .u64 u2, .int .u64 u3, .int .u64 u4, .slice ul us.length uc] rfl rfl ?c1 ?c2 ?c3 ?c4 ?c5 ?_)
            case c1 => exact six_cells x _ _ _ _ _ _
            case c2 => intro u hu; simp at hu; rcases hu with rfl | rfl | rfl | rfl | rfl | rfl <;> rfl
            case c3 => unfold maxLen; omega
            case c4 => omega
            case c5 => simp; omega
            intro vy y hown' hgrow _
            have hge := ownR_ge HO1.out
            have hbn : Below wo.heap.size wo y := (hbi.alloc hbi.size _).grown hgrow (by simp; omega) hge
            have hbl : Below B x y := ((Below.refl B x).alloc (by omega) _).grown hgrow (by simp; omega) (fun g hg => by have := hge g hg; omega)
            have hvals := (HV1.out.go (kept_lo (by omega) hbl)).append ((RowVals.one HOX.out).go (kept_lo (by omega) hbl))
            have HOW := Lib.hid hown'
            have HVL := Lib.hid hvals
            replace hbi := hbn
            replace hsi := hbi.size
            clear hgrow hown' hvals hge hbl hbn
            clear c0 c1 c2 c3 c4 c5 e0 e1 e2 e3 e4 e5
            go_wp2
            exact ⟨⟨k + 1, n + 1, true, _, _, by omega, by go_num, rfl, S1.out HI.out, by rw [List.length_append, ← HN.out]; rfl, by omega, hbi, hsi, HOW.out, HVL.out⟩, by simp [intOf]; omega⟩
          | false =>
            go_wp2_with fail
            go_region_held3 (fun x => ((x.cell? ⟨b, off + i * 6, none⟩ = some (.int .u8 k') ∧ x.cell? ⟨b, off + i * 6 + 1, none⟩ = some (.int .u64 ta) ∧ x.cell? ⟨b, off + i * 6 + 2, none⟩ = some (.int .u64 tb) ∧ x.cell? ⟨b, off + i * 6 + 3, none⟩ = some (.int .u64 tc) ∧ x.cell? ⟨b, off + i * 6 + 4, none⟩ = some (.int .u64 td) ∧ x.cell? ⟨b, off + i * 6 + 5, none⟩ = some (.slice al' ks'.length cap')) ∧ (x.cell? ⟨g, off2 + k * 6, none⟩ = some (.int .u8 u0) ∧ x.cell? ⟨g, off2 + k * 6 + 1, none⟩ = some (.int .u64 u1) ∧ x.cell? ⟨g, off2 + k * 6 + 2, none⟩ = some (.int .u64 u2) ∧ x.cell? ⟨g, off2 + k * 6 + 3, none⟩ = some (.int .u64 u3) ∧ x.cell? ⟨g, off2 + k * 6 + 4, none⟩ = some (.int .u64 u4) ∧ x.cell? ⟨g, off2 + k * 6 + 5, none⟩ = some (.slice ul us.length uc))) ∧ Below wr.heap.size wr x) (first | assumption | (with_reducible exact KEEP.out _ (Below.refl _ _).drew) | (with_reducible exact KEEP.out _ (by assumption)))
              (first | (go_at_call 10; (with_reducible refine (K2.out _ (And.right (by assumption))).mono ?_); (rintro e x ⟨rfl, hb1⟩); (have hbx : Below wr.heap.size wr x := (Below.refl _ wr).drew.trans hb1)))
            all_goals
              obtain ⟨⟨⟨c0, c1, c2, c3, c4, c5⟩, ⟨e0, e1, e2, e3, e4, e5⟩⟩, -⟩ := KEEP.out _ hbx
              have HO1 := Lib.hid (ownR_below HO.out hbx)
              have HV1 := Lib.hid (HV.out.go (kept_lo (by omega) (hbx.mono (by omega))))
              have HRX := Lib.hid ((HRE.out.below hbi).below hbx)
              have HOX := Lib.hid (HRO.out.below hbx)
              have hgx : g < x.heap.size := Nat.lt_of_lt_of_le hglt hbx.size
              replace hbi := hbi.trans (hbx.mono hsi)
              replace hsi := hbi.size
              clear hbx
              by_cases hq : q < 0
              · have d9 : decide (q < 0) = true := by simpa using hq
                rw [d9]
                go_wp2_with (at_builtin; refine wpList_append_own _ rfl _ _ 25 rfl wo.heap.size 27 i0 _ 6 64 Try.underlying25 hi hz0 hz1 hz2'.out rfl (by decide) _ _ _ rfl (HO1.out.alloc _) ⟨x.heap.size, 0, none⟩ 1 1 [.int .u8 k', .int .u64 ta, .int .u64 tb, .int .u64 tc, .int .u64 td, .slice al' ks'.length cap'] rfl rfl ?c1 ?c2 ?c3 ?c4 ?c5 ?_)
                case c1 => exact six_cells x _ _ _ _ _ _
                case c2 => intro u hu; simp at hu; rcases hu with rfl | rfl | rfl | rfl | rfl | rfl <;> rfl
                case c3 => unfold maxLen; omega
                case c4 => omega
                case c5 => simp; omega
                intro vy y hown' hgrow _
                have hge := ownR_ge HO1.out
                have hbn : Below wo.heap.size wo y := (hbi.alloc hbi.size _).grown hgrow (by simp; omega) hge
                have hbl : Below B x y := ((Below.refl B x).alloc (by omega) _).grown hgrow (by simp; omega) (fun g hg => by have := hge g hg; omega)
                have hvals := (HV1.out.go (kept_lo (by omega) hbl)).append ((RowVals.one HRX.out).go (kept_lo (by omega) hbl))
                have HOW := Lib.hid hown'
                have HVL := Lib.hid hvals
                replace hbi := hbn
                replace hsi := hbi.size
                clear hgrow hown' hvals hge hbl hbn
                clear c0 c1 c2 c3 c4 c5 e0 e1 e2 e3 e4 e5
                obtain ⟨e0, e1, e2, e3, e4, e5⟩ := HCO.out _ hbi
                have HOY := Lib.hid (HR0.out.below hbi)
                go_wp2_with (at_builtin; refine wpList_append_own _ rfl _ _ 25 rfl wo.heap.size 27 i0 _ 6 64 Try.underlying25 hi hz0 hz1 hz2'.out rfl (by decide) _ _ _ rfl (HOW.out.alloc _) ⟨y.heap.size, 0, none⟩ 1 1 [.int .u8 u0, .int .u64 u1, .int .u64 u2, .int .u64 u3, .int .u64 u4, .slice ul us.length uc] rfl rfl ?m1 ?m2 ?m3 ?m4 ?m5 ?_)
                case m1 => exact six_cells y _ _ _ _ _ _
                case m2 => intro u hu; simp at hu; rcases hu with rfl | rfl | rfl | rfl | rfl | rfl <;> rfl
                case m3 => unfold maxLen; omega
                case m4 => omega
                case m5 => simp; omega
                intro vz z hown' hgrow _
                have hge := ownR_ge HOW.out
                have hbn : Below wo.heap.size wo z := (hbi.alloc hbi.size _).grown hgrow (by simp; omega) hge
                have hbl : Below B y z := ((Below.refl B y).alloc (by omega) _).grown hgrow (by simp; omega) (fun g hg => by have := hge g hg; omega)
                have hvals := (HVL.out.go (kept_lo (by omega) hbl)).append ((RowVals.one HOY.out).go (kept_lo (by omega) hbl))
                have HOZ := Lib.hid hown'
                have HVZ := Lib.hid hvals
                replace hbi := hbn
                replace hsi := hbi.size
                clear hgrow hown' hvals hge hbl hbn
                have HS := Lib.hid (S3.out HI.out hq)
                clear hq e0 e1 e2 e3 e4 e5
                go_wp2
                exact ⟨⟨k + 1, n + 1 + 1, true, _, _, by omega, by go_num, rfl, HS.out, by rw [List.length_append, List.length_append, ← HN.out]; rfl, by have h := HI.out.2; have := HN.out; simp only [Bool.false_eq_true, if_false] at h; omega, hbi, hsi, HOZ.out, by simpa [List.append_assoc] using HVZ.out⟩, by simp [intOf]; omega⟩
              · have d9 : decide (q < 0) = false := by simpa using hq
                rw [d9]
                go_wp2_with (at_builtin; refine wpList_append_own _ rfl _ _ 25 rfl wo.heap.size 27 i0 _ 6 64 Try.underlying25 hi hz0 hz1 hz2'.out rfl (by decide) _ _ _ rfl (HO1.out.alloc _) ⟨x.heap.size, 0, none⟩ 1 1 [.int .u8 u0, .int .u64 u1, .int .u64 u2, .int .u64 u3, .int .u64 u4, .slice ul us.length uc] rfl rfl ?n1 ?n2 ?n3 ?n4 ?n5 ?_)
                case n2 => exact ⟨rfl, rfl, rfl, rfl, rfl, rfl⟩
                case n3 => unfold maxLen; omega
                case n4 => omega
                case n5 => omega
                intro vy y hown' hgrow _
                have hge := ownR_ge HO1.out
                have hbn : Below wo.heap.size wo y := (hbi.alloc hbi.size _).grown hgrow (by simp; omega) hge
                have hbl : Below B x y := ((Below.refl B x).alloc (by omega) _).grown hgrow (by simp; omega) (fun g hg => by have := hge g hg; omega)
                have hvals := (HV1.out.go (kept_lo (by omega) hbl)).append ((RowVals.one HOX.out).go (kept_lo (by omega) hbl))
                have HOW := Lib.hid hown'
                have HVL := Lib.hid hvals
                replace hbi := hbn
                replace hsi := hbi.size
                clear hgrow hown' hvals hge hbl hbn
                have HS := Lib.hid (S2.out HI.out hq)
                clear hq c0 c1 c2 c3 c4 c5 e0 e1 e2 e3 e4 e5
                go_wp2
                exact ⟨⟨k + 1, n + 1, false, _, _, by omega, by go_num, rfl, HS.out, by rw [List.length_append, ← HN.out]; rfl, by omega, hbi, hsi, HOW.out, HVL.out⟩, by simp [intOf]; omega⟩
        · have hke : k = O.length := by omega
          cases dn with
          | true =>
            have hM := insAt_end HI.out hke
            rw [← HST.out] at hM
            obtain ⟨alM, capM, hv, hcM, hoM⟩ := out_of_own (n := wo.heap.size) (by rw [← HN.out]; exact HO.out) HV.out
            subst hv
            have HM := Lib.hid hM
            have HOM := Lib.hid hoM
            have hbo : Below w.heap.size w wr := hb.trans (hbi.mono hsz)
            have hoM' : OutAt w.heap.size B wr alM M := by
              rcases hoM with h | ⟨g, off, e, h1, h2, h3⟩
              · exact .inl h
              · exact .inr ⟨g, off, e, by omega, h2, h3⟩
            have HOM' := Lib.hid hoM'
            clear hM hoM hoM' hke
            go_wp2
            exact ⟨⟨i + 1, M, alM, capM, by omega, by go_num, HM.out.symm, rfl, hcM, HOM'.out, hbo⟩, by simp [intOf]; omega⟩
          | false =>
            have hM := insAt_last HI.out hke
            rw [← HST.out] at hM
            have hge := ownR_ge HO.out
            have hMl : n = O.length := by have h := HI.out.2; have h2 := HN.out; simp at h; omega
            obtain ⟨c0, c1, c2, c3, c4, c5⟩ := HCR.out _ hbi
            have HRX := Lib.hid (HRE.out.below hbi)
            have hbw : b < wr.heap.size := Nat.lt_of_lt_of_le hbr hsi
            have HM := Lib.hid hM
            clear hM hke
            go_wp2_with (at_builtin; refine wpList_append_own _ rfl _ _ 25 rfl wo.heap.size 27 i0 _ 6 64 Try.underlying25 hi hz0 hz1 hz2'.out rfl (by decide) _ _ _ rfl (HO.out.alloc _) ⟨wr.heap.size, 0, none⟩ 1 1 [.int .u8 k', .int .u64 ta, .int .u64 tb, .int .u64 tc, .int .u64 td, .slice al' ks'.length cap'] rfl rfl ?c1 ?c2 ?c3 ?c4 ?c5 ?_)
            case c1 => exact six_cells wr _ _ _ _ _ _
            case c2 => intro u hu; simp at hu; rcases hu with rfl | rfl | rfl | rfl | rfl | rfl <;> rfl
            case c3 => unfold maxLen; omega
            case c4 => omega
            case c5 => simp; omega
            intro vy y hown' hgrow _
            have hbn : Below wo.heap.size wo y := (hbi.alloc hbi.size _).grown hgrow (by simp; omega) hge
            have hbl : Below B wr y := ((Below.refl B wr).alloc (by omega) _).grown hgrow (by simp; omega) (fun g hg => by have := hge g hg; omega)
            have hvals := (HV.out.go (kept_lo (by omega) hbl)).append ((RowVals.one HRX.out).go (kept_lo (by omega) hbl))
            obtain ⟨alM, capM, hv, hcM, hoM⟩ := out_of_own (n := wo.heap.size) (O := M ++ [r]) (by rw [List.length_append, ← HN.out, hMl, hOl]; exact hown') hvals
            subst hv
            have hbo : Below w.heap.size w y := hb.trans (hbn.mono hsz)
            have hoM' : OutAt w.heap.size B y alM (M ++ [r]) := by
              rcases hoM with h | ⟨g, off, e, h1, h2, h3⟩
              · exact .inl h
              · exact .inr ⟨g, off, e, by omega, h2, h3⟩
            have HOM' := Lib.hid hoM'
            clear hgrow hown' hvals hge hbl hbn hoM hoM' c0 c1 c2 c3 c4 c5
            go_wp2
            exact ⟨⟨i + 1, M ++ [r], alM, capM, by omega, by go_num, HM.out.symm, rfl, hcM, HOM'.out, hbo⟩, by simp [intOf]; omega⟩
    · have he : l.take i = l := List.take_of_length_le (by omega)
      rw [HEQ.out, he] at HOUT
      rw [HEQ.out, he] at hcapO
      have hle : O.length = (sortR l).length := by rw [HEQ.out, he]
      have HLE := Lib.hid hle
      have HOR := Lib.hid HOUT.out.row
      clear hle he
      go_wp2
      go_ret
      exact ⟨alO, capO, by rw [← HLE.out]; rfl, hcapO, HOR.out, hb⟩
end Go.Proofs.Ythkkeamjigmfhaa
