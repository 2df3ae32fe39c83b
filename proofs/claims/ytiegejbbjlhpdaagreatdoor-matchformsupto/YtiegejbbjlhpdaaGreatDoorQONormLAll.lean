/- Lemmas of mine, merged: QONormL, QONormQ, QONormR. -/
import Derived.Deep.CutRange
import Derived.Test.YtiegejbbjlhpdaaGreatDoorQORdrDAll
import Derived.Test.YtiegejbbjlhpdaaGreatDoorQOOrdOAll
import Derived.Test.YtiegejbbjlhpdaaGreatDoorQORexEAll
import Derived.Test.YtiegejbbjlhpdaaGreatDoorQORexKAll
import Derived.Test.YtiegejbbjlhpdaaGreatDoorQOSetCAll
/- Lemmas of mine. -/
namespace Go.Proofs.YtiegejbbjlhpdaaGreatDoor
open Go.RowKit
theorem onceR_len (l : List Rx) : (onceR l).length ≤ l.length := by
  have := onceFrom_length l []
  simpa [onceR] using this
theorem gathP_len (p : List Ex) : (gathP p).length ≤ p.length + 1 := by
  have h : (bareL p).length ≤ p.length := List.length_filter_le _ _
  unfold gathP
  split
  · omega
  · simp only [List.length_append, List.length_singleton]; omega
theorem ofR_some {s : Ws} (h : s ≠ Ws.nil) : ofR s = (Ex.cls s).rx := by
  unfold ofR
  rw [if_neg (fun e => h (sameW_iff.1 e))]
  rfl
def CutP (B : Nat) (X : Nat → Prop) (o : Nat) (ps : List Ex) (W1 w : World) : Prop := PV B X (Lo B) o ps w ∧ Below B W1 w
theorem last_any {ok : Nat → Prop} (ps : List Ex) (al : Option Addr) (cap : Nat) (w : World) (hl : ps.length ≤ 1000000) (h : RowAt ok w al (ps.map Ex.rx)) :
    Calls Tryz.prog 68 #[.slice al ps.length cap] w fun x w3 => ∃ (n3 : Nat) (al3 : Option Addr), x = .returned (.slice al3 n3 n3) ∧ Below w.heap.size w w3 ∧
      Calls Tryz.prog 67 #[.slice al3 n3 n3] w3 fun x w4 => ∃ (n4 : Nat) (al4 : Option Addr), x = .returned (.slice al4 n4 n4) ∧ Below w3.heap.size w3 w4 ∧
        Calls Tryz.prog 62 #[.slice al4 n4 n4] w4 (NewPost (foldA (canE ps)).rx w4) := by
  have K := sort_any (ps.map Ex.rx) al cap w (by rw [List.length_map]; exact hl) h
  rw [List.length_map] at K
  refine K.mono ?_
  rintro x w3 ⟨al3, rfl, hr3, hb3⟩
  refine ⟨_, al3, rfl, hb3, ?_⟩
  have hS : (sortR (ps.map Ex.rx)).length ≤ 1000000 := by rw [sortR_length, List.length_map]; exact hl
  refine (once_any (sortR (ps.map Ex.rx)) al3 _ w3 hS hr3).mono ?_
  rintro x w4 ⟨al4, rfl, hr4, hb4⟩
  refine ⟨_, al4, rfl, hb4, ?_⟩
  rw [foldA_rx, canE_map]
  exact or_any _ al4 _ w4 (Nat.lt_of_le_of_lt (onceR_len _) (by omega)) hr4
set_option maxRecDepth 100000 in
set_option maxHeartbeats 8000000 in
theorem nmAlt_any (ok : Nat → Prop) (l : List Ex) (al0 : Option Addr) (cap : Nat) (w : World) (hlen : l.length < 2199023255552) (hM : (partL 5 l).length ≤ 900000) (hR : RowAt ok w al0 (l.map Ex.rx)) :
    Calls Tryz.prog 37 #[.slice al0 l.length cap] w (NewPost (altE l).rx w) := by
  obtain ⟨W1, hW1⟩ : ∃ x, x = ((w.alloc zR).alloc (.cells #[.slice none 0 0] 25)).alloc (.cells #[.int .u64 0, .int .u64 0, .int .u64 0, .int .u64 0] 24) := ⟨_, rfl⟩
  have hb1 : Below w.heap.size w W1 := by rw [hW1]; exact al3 w _ _ _
  obtain ⟨hz, ho, hc, hsz⟩ := three_new w zR (.cells #[.slice none 0 0] 25) (.cells #[.int .u64 0, .int .u64 0, .int .u64 0, .int .u64 0] 24)
  rw [← hW1] at hz ho hc hsz
  have hB : w.heap.size + 1 ≤ W1.heap.size := by omega
  have hR1 : RowAt (Lo (w.heap.size + 1)) W1 al0 (l.map Ex.rx) := (hR.imp (ok' := Lo (w.heap.size + 1)) fun b hb _ => Nat.lt_succ_of_lt hb).below hb1
  obtain ⟨X, hX⟩ : ∃ X : Nat → Prop, X = fun b => b = w.heap.size + 1 ∨ b = w.heap.size + 2 := ⟨_, rfl⟩
  have hXB : ∀ x, X x → w.heap.size + 1 ≤ x := fun x h => by rw [hX] at h; rcases h with rfl | rfl <;> omega
  have hXo : X (w.heap.size + 1) := by rw [hX]; exact .inl rfl
  have hXc : X (w.heap.size + 2) := by rw [hX]; exact .inr rfl
  have hXl : ∀ x, X x → x < W1.heap.size := fun x h => by rw [hX] at h; rcases h with rfl | rfl <;> omega
  have hT : Tell 1000000 (w.heap.size + 1) W1 65 #[.pointer (some ⟨w.heap.size + 2, 0, none⟩), .pointer (some ⟨w.heap.size + 1, 0, none⟩)] (AltI (w.heap.size + 1) X (w.heap.size + 1) (w.heap.size + 2)) (fun _ => True) := by
    refine ⟨fun v W => rfl, fun done W W' h hb => ⟨h.1.below hb, h.2.1.below hb h.2.1.lt, h.2.2⟩, fun done e v W hd hI hB' _ hre => ?_⟩
    exact alt1_any hXo hXc (by omega) hXB (Nat.le_trans hB hB'.size) hd hI hre
  have K0 := each_any (k := 5) (.inr rfl) hB hT (Ex.sum l) l al0 cap [] W1 (Nat.le_refl _) hlen hR1 (fun _ _ => trivial) (by simp only [List.nil_append]; omega) ⟨PV.start ho hXl, hc, Ws.nil_ok⟩ (Below.refl _ _)
  simp only [List.nil_append] at K0
  rw [altE_part]
  generalize partL 5 l = p at *
  have KF := Lib.hid fun al cap W (h : RowAt (fun b => Lo (w.heap.size + 1) b ∨ w.heap.size + 1 ≤ b) W al ((gathP p).map Ex.rx)) => last_any (gathP p) al cap W (Nat.le_trans (gathP_len p) (by omega)) h
  generalize foldA (canE (gathP p)) = res at *
  have HG := Lib.hid (show gathP p = if setE p = Ws.nil then bareL p else bareL p ++ [.cls (setE p)] from rfl)
  have hbl : (bareL p).length ≤ 900000 := Nat.le_trans (List.length_filter_le _ _) hM
  have K := Lib.hid K0
  rw [show (((5 : Nat) : Int)) = 5 from rfl] at K
  have HB1 := Lib.hid hb1
  have HW1 := Lib.hid hW1
  have HZ := Lib.hid fun w2 (h : Below (w.heap.size + 1) W1 w2) => (h.block _ (Nat.lt_succ_self _)).trans hz
  have hsz2 : w.heap.size < W1.heap.size := by omega
  have HOK := Lib.hid (show ∀ b, Lo (w.heap.size + 1) b → ¬ X b from fun b h hb => by have := hXB b hb; have : b < w.heap.size + 1 := h; omega)
  have hBo : w.heap.size + 1 ≤ w.heap.size + 1 := Nat.le_refl _
  clear hR hR1 hT hb1 ho hc hz hX hXB hXl K0
  go_enter Tryz.func37, Tryz.ntmps37
  go_wp2_with fail
  rw [← HW1.out]
  refine K.out.mono ?_
  rintro x w2 ⟨rfl, hI, hb2⟩
  obtain ⟨hP, hV, hsok⟩ := hI
  obtain ⟨⟨ta, tb, tc, td⟩, ht⟩ : ∃ t, t = setE p := ⟨_, rfl⟩
  rw [← ht] at hV hsok HG
  obtain ⟨⟨t0, t1, t2, t3⟩, -⟩ := hV.all
  have HBC := Lib.hid hb2
  have HP := Lib.hid hP
  have HVB := Lib.hid hV
  have HSK := Lib.hid hsok
  clear hP hV hsok hb2 K HW1 ht
  by_cases hn : (⟨ta, tb, tc, td⟩ : Ws) = Ws.nil
  · rw [hn, if_pos rfl] at HG
    injection hn with n0 n1 n2 n3
    subst n0 n1 n2 n3
    have HPV : Hid (PV (w.heap.size + 1) X (Lo (w.heap.size + 1)) (w.heap.size + 1) (gathP p) w2) := Lib.hid (by rw [HG.out]; exact HP.out)
    have EQ := eqW_yes Ws.nil
    rw [nil_v] at EQ
    clear HG HP
    generalize gathP p = ps at *
    obtain ⟨al2, cap2, hv, hcp, hr⟩ := HPV.out.out
    obtain ⟨c0, -⟩ := var_cell hv
    have HZ2 := Lib.hid (HZ.out w2 HBC.out)
    have HB2 := Lib.hid (HB1.out.trans (HBC.out.mono (Nat.le_succ _)))
    have hs2 : w.heap.size < w2.heap.size := Nat.lt_of_lt_of_le hsz2 HBC.out.size
    have KS := Lib.hid (KF.out al2 cap2 w2 hr)
    clear hv hcp hr
    go_wp2_with fail
    refine KS.out.mono ?_
    rintro x w3 ⟨n3, al3, rfl, hb3, K3⟩
    have K3 := Lib.hid K3
    have hz3 := (hb3.block _ hs2).trans HZ2.out
    have HZ3 := Lib.hid hz3
    have HB3 := Lib.hid (HB2.out.trans (hb3.mono HB2.out.size))
    have hs3 : w.heap.size < w3.heap.size := Nat.lt_of_lt_of_le hs2 hb3.size
    clear hb3 hz3 c0 KS
    go_wp2_with fail
    refine K3.out.mono ?_
    rintro x w4 ⟨n4, al4, rfl, hb4, K4⟩
    have K4 := Lib.hid K4
    have hz4 := (hb4.block _ hs3).trans HZ3.out
    have HZ4 := Lib.hid hz4
    have HB4 := Lib.hid (HB3.out.trans (hb4.mono HB3.out.size))
    have hs4 : w.heap.size < w4.heap.size := Nat.lt_of_lt_of_le hs3 hb4.size
    clear hb4 hz4 K3
    go_wp2_with fail
    refine K4.out.mono ?_
    rintro x w5 ⟨v1, rfl, hv1, hb5⟩
    obtain ⟨p0, p1, p2, p3, p4, pl, pn, pc, rfl⟩ := cells_re hv1
    have hz5 := (hb5.block _ hs4).trans HZ4.out
    have HV := Lib.hid hv1
    have HZ5 := Lib.hid hz5
    have HB5 := Lib.hid (HB4.out.trans (hb5.mono HB4.out.size))
    obtain ⟨d0, d1, d2, d3, d4, d5, f0, f1, f2, f3, f4, f5⟩ := cellsR hz5
    clear hv1 hb5 hz5 K4
    go_wp2
    exact ret_new HZ5.out HV.out hs4 HB5.out (Nat.le_refl _) Tryz.results37 rfl rfl
  · rw [if_neg hn] at HG
    have EQ := eqW_no hn
    rw [nil_v] at EQ
    simp only [Ws.v] at EQ
    have CE := Lib.hid (show ∀ x w3, PushPost (w.heap.size + 1) X (Lo (w.heap.size + 1)) (w.heap.size + 1) (bareL p ++ [.cls ⟨ta, tb, tc, td⟩]) w2 x w3 → CutP (w.heap.size + 1) X (w.heap.size + 1) (gathP p) W1 w3 from fun x w3 h => ⟨by rw [HG.out]; exact h.2.1, HBC.out.trans h.2.2.1⟩)
    have KOF := Lib.hid fun W => ofX_any ⟨ta, tb, tc, td⟩ W HSK.out
    rw [ofR_some hn] at KOF
    simp only [Ws.v] at KOF
    clear HG
    generalize gathP p = qs at *
    generalize bareL p = ps at *
    obtain ⟨v, xs, h1, hown, h3, h4⟩ := HP.out
    obtain ⟨al, vc, rfl⟩ : ∃ al c, v = .slice al ps.length c := own_form hown
    obtain ⟨i0, z0, hi0, hz0, hz1, hz2, hz3⟩ := infoR2
    have hz2' := Lib.hid hz2
    have HX : X (w.heap.size + 1) := hXo
    have HOWN := Lib.hid hown
    have H3 := Lib.hid h3
    have H4 := Lib.hid h4
    have hBw : w.heap.size + 1 ≤ w2.heap.size := Nat.le_trans hB HBC.out.size
    have V0 := Lib.hid h1
    clear hz2 hown h3 h4 h1 HP
    go_upto_region 5 with fail
    clear EQ t0 t1 t2 t3
    go_cut [2] from 11 to 17 (fun v wx => v = .pointer (some ⟨w.heap.size, 0, none⟩) ∧ CutP (w.heap.size + 1) X (w.heap.size + 1) qs W1 wx)
    case first =>
      have WB := Lib.hid fun x (hx : Below w2.heap.size w2 x) => hx
      have VO := Lib.hid fun x (hx : Below w2.heap.size w2 x) => (hx.block _ (H4.out _ HX).1).trans V0.out
      have CB := Lib.hid fun x (hx : Below w2.heap.size w2 x) => (HVB.out.below hx HVB.out.lt).all
      refine wp_region_orderA 5 (fun i => ([SP.eq (.slice al ps.length vc), SP.eq (.agg #[.int .u64 ta, .int .u64 tb, .int .u64 tc, .int .u64 td]), SP.ex (fun b => Lo (w.heap.size + 1) b ∧ (Value.slice al ps.length vc).ownBlock ≠ some b) (.cls ⟨ta, tb, tc, td⟩), SP.eq (.int .i64 ps.length), SP.zero] : List SP).getD i SP.free) (fun _ => false) (fun _ _ _ h => by cases h) (by kernel_rfl) (by kernel_rfl) ⟨?_, ?_, ?_, ?_, ?_, trivial⟩ ?_
      · intro a x K out get hb hK
        rw [if_pos (wanted_none rfl)]
        have o3 : a.tmps[3]? = some (.pointer (some ⟨w.heap.size + 1, 0, none⟩)) := out 3 (by kernel_rfl)
        obtain ⟨c0, -⟩ := var_cell (VO.out x hb)
        clear out get
        go_simp
        exact hK _ _ rfl (Below.refl _ _) (fun h => by cases h)
      · intro a x K out get hb hK
        rw [if_pos (wanted_none rfl)]
        have o4 : a.tmps[4]? = some (.pointer (some ⟨w.heap.size + 1 + 1, 0, none⟩)) := out 4 (by kernel_rfl)
        obtain ⟨⟨c0, c1, c2, c3⟩, -⟩ := CB.out x hb
        clear out get
        go_simp
        exact hK _ _ rfl (Below.refl _ _) (fun h => by cases h)
      · intro a x K out get hb hK
        rw [if_pos (wanted_none rfl)]
        obtain ⟨y12, hy12, rfl⟩ := get 1 _ _ rfl rfl (by kernel_rfl)
        clear out get
        go_simp
        refine (KOF.out x).mono ?_
        rintro e w2 ⟨v2, rfl, hv2, hb2⟩
        exact hK _ _ (ExV.of (leaf_any w2 hv2) fun _ _ h => h) hb2 (fun h => by cases h)
      · intro a x K out get hb hK
        rw [if_pos (wanted_none rfl)]
        obtain ⟨y11, hy11, rfl⟩ := get 0 _ _ rfl rfl (by kernel_rfl)
        clear out get
        go_simp
        exact hK _ _ rfl (Below.refl _ _) (fun h => by cases h)
      · intro a x K out get hb hK
        rw [if_pos (wanted_none rfl)]
        clear out get
        go_simp
        exact hK _ _ ⟨_, rfl, blk_new _ _⟩ (bel_al _ _) (fun h => by cases h)
      refine ao_finA (isD := fun s => decide (11 ≤ s) && decide (s ≤ 17)) (by kernel_rfl) ?_
      intro f x hv hne hb
      clear hne
      have e11 : f 11 = _ := hv 0 _ _ (by decide) rfl rfl
      have e14 : f 14 = _ := hv 3 _ _ (by decide) rfl rfl
      obtain ⟨p0, p1, p2, p3, p4, pl, pn, pc, e13, he⟩ := hv 2 _ _ (by decide) rfl rfl
      obtain ⟨gz, e15, hz⟩ := hv 4 _ _ (by decide) rfl rfl
      have hbx := WB.out x hb
      have hox := VO.out x hb
      have HE := Lib.hid he
      have hownx := ownR_below HOWN.out hbx
      have hBx := Nat.le_trans hBw hbx.size
      clear hv he
      generalize hF : (Act.mk (List.toArray (frm f _ 0 _)) _) = fr
      simp [frm] at hF
      rw [e11, e14, e13, e15] at hF
      subst hF
      generalize f 12 = u12 at *
      generalize f 16 = u16 at *
      generalize f 17 = u17 at *
      clear e11 e14 e13 e15 f
      refine wp_end (n := 5) (by kernel_rfl) rfl rfl rfl rfl ?_
      refine step_append_lies _ rfl (.tmp 11) (.tmp 15) 25 rfl (w.heap.size + 1) 27 i0 z0 6 64 Tryz.underlying25 hi0 hz0 hz1 hz2'.out hz3 (by decide) (.slice al ps.length vc) ps.length xs rfl hownx ⟨gz, 0, none⟩ 1 1 [.int .u8 0, .int .u64 0, .int .u64 0, .int .u64 0, .int .u64 0, .slice none 0 0] rfl rfl (zero_at hz) zero6_one (by decide) (by unfold maxLen; omega) (by omega) hBx _ rfl ?_
      intro g' cap' w2 hown hgrow hat hlt
      obtain ⟨⟨n0, n1, n2, n3, n4, n5⟩, m0, m1, m2, m3, m4, m5⟩ := new6 HOWN.out.1 hown
      have hne : ¬ w.heap.size + 1 = g' := fun e => by
        rcases hat with h | h
        · exact (H4.out _ HX).2 (by rw [h, e])
        · have := (H4.out _ HX).1; have := hbx.size; omega
      have hne' : ¬ g' = w.heap.size + 1 := fun e => hne e.symm
      have hvo := (hgrow.block _ (Nat.lt_of_lt_of_le (H4.out _ HX).1 hbx.size) fun e => (H4.out _ HX).2 e.symm).trans hox
      obtain ⟨v0c, v0f⟩ := var_cell hvo
      have hidx : (ps.length : Int) < (ps.length : Int) + 1 := by omega
      have HOW := Lib.hid hown
      have HGR := Lib.hid hgrow
      have HAT := Lib.hid hat
      have HBX := Lib.hid hbx
      have HVO := Lib.hid hvo
      clear hown hgrow hat hbx hvo hox hz hownx hBx hb
      refine ⟨?_, ?_⟩
      · rw [if_pos (wanted_none rfl)]
        go_simp
        refine ⟨?_, ?_⟩
        · go_wp2_with fail
          go_meet
          exact ⟨rfl, CE.out _ _ (push_closeA HX HOK.out hBo hBw HOWN.out H3.out H4.out HBX.out HE.out HOW.out HGR.out HAT.out HVO.out hne)⟩
        · go_wp2_with fail
          go_meet
          exact ⟨rfl, CE.out _ _ (push_closeB HX HOK.out hBo hBw HOWN.out H3.out H4.out HBX.out HE.out HOW.out HGR.out HAT.out HVO.out hne)⟩
      · go_wp2_with fail
        go_meet
        exact ⟨rfl, CE.out _ _ (push_closeB HX HOK.out hBo hBw HOWN.out H3.out H4.out HBX.out HE.out HOW.out HGR.out HAT.out HVO.out hne)⟩
    case rest =>
      obtain ⟨rfl, hcp0⟩ := hcut
      have HPV := Lib.hid hcp0.1
      have HBD := Lib.hid hcp0.2
      clear hcp0 HBC HVB HOWN H3 H4 V0 CE KOF
      obtain ⟨al2, cap2, hv, hcp, hr⟩ := HPV.out.out
      obtain ⟨c0, -⟩ := var_cell hv
      have HZ2 := Lib.hid (HZ.out wc HBD.out)
      have HB2 := Lib.hid (HB1.out.trans (HBD.out.mono (Nat.le_succ _)))
      have hs2 : w.heap.size < wc.heap.size := Nat.lt_of_lt_of_le hsz2 HBD.out.size
      have KS := Lib.hid (KF.out al2 cap2 wc hr)
      clear hv hcp hr
      go_wp2_with fail
      refine KS.out.mono ?_
      rintro x w3 ⟨n3, al3, rfl, hb3, K3⟩
      have K3 := Lib.hid K3
      have hz3 := (hb3.block _ hs2).trans HZ2.out
      have HZ3 := Lib.hid hz3
      have HB3 := Lib.hid (HB2.out.trans (hb3.mono HB2.out.size))
      have hs3 : w.heap.size < w3.heap.size := Nat.lt_of_lt_of_le hs2 hb3.size
      clear hb3 hz3 c0 KS
      go_wp2_with fail
      refine K3.out.mono ?_
      rintro x w4 ⟨n4, al4, rfl, hb4, K4⟩
      have K4 := Lib.hid K4
      have hz4 := (hb4.block _ hs3).trans HZ3.out
      have HZ4 := Lib.hid hz4
      have HB4 := Lib.hid (HB3.out.trans (hb4.mono HB3.out.size))
      have hs4 : w.heap.size < w4.heap.size := Nat.lt_of_lt_of_le hs3 hb4.size
      clear hb4 hz4 K3
      go_wp2_with fail
      refine K4.out.mono ?_
      rintro x w5 ⟨v1, rfl, hv1, hb5⟩
      obtain ⟨p0, p1, p2, p3, p4, pl, pn, pc, rfl⟩ := cells_re hv1
      have hz5 := (hb5.block _ hs4).trans HZ4.out
      have HV := Lib.hid hv1
      have HZ5 := Lib.hid hz5
      have HB5 := Lib.hid (HB4.out.trans (hb5.mono HB4.out.size))
      obtain ⟨d0, d1, d2, d3, d4, d5, f0, f1, f2, f3, f4, f5⟩ := cellsR hz5
      clear hv1 hb5 hz5 K4
      go_wp2
      exact ret_new HZ5.out HV.out hs4 HB5.out (Nat.le_refl _) Tryz.results37 rfl rfl
open Go.RowKit
set_option maxHeartbeats 4000000 in
set_option maxRecDepth 100000 in
theorem nstar_any (a : Ex) (ok : Nat → Prop) (v : Value) (w : World) (h : ReAt ok w v a.rx) : Calls Tryz.prog 38 #[v] w (ExPost ok (starE a) w) := by
  obtain ⟨ka, ⟨sa, sb, sc, sd⟩, ksa, hsa⟩ := rx_form a
  have HA := Lib.hid h
  rw [hsa] at h
  obtain ⟨_, _, al, cap, rfl, hcap, _, hrow⟩ := h
  simp only at HA ⊢
  have k1a := kind_emp hsa
  have k2a := kind_eps hsa
  have k6a := kind_star hsa
  have KB := Lib.hid fun W => then_any (ok := fun _ => True) [] none 0 W (by decide) (.inl rfl)
  rw [show foldR 4 2 [] = Ex.eps.rx from rfl, show ([] : List Rx).length = 0 from rfl] at KB
  have B := Lib.hid (Bn1.new w (.cells #[.int .u8 ka, .int .u64 sa, .int .u64 sb, .int .u64 sc, .int .u64 sd, .slice al ksa.length cap] 27))
  cases q1 : a.isEmp with
  | true =>
    rw [q1] at k1a
    rw [starE_bare (.inl q1)]
    clear q1 hrow hsa k2a k6a HA
    go_enter Tryz.func38, Tryz.ntmps38
    go_wp2_with fail
    refine (KB.out _).mono ?_
    rintro e w1 ⟨v1, rfl, hv1, hb1⟩
    obtain ⟨p0, p1, p2, p3, p4, pl, pn, pc, rfl⟩ := cells_re hv1
    have B1 := Lib.hid (B.out.go hb1)
    have HV := Lib.hid (leaf_any (ok' := okN ok w.heap.size) w1 hv1)
    clear hv1 hb1 B
    obtain ⟨c0, c1, c2, c3, c4, c5, f0, f1, f2, f3, f4, f5⟩ := cellsR B1.out.2.1
    go_wp2
    exact ret_ex (e := .eps) B1.out.2.1 HV.out B1.out.2.2 (by omega) Tryz.results38 rfl rfl
  | false =>
  rw [q1] at k1a
  cases q2 : a.isEps with
  | true =>
    rw [q2] at k2a
    rw [starE_bare (.inr q2)]
    clear q1 q2 hrow hsa k6a HA
    go_enter Tryz.func38, Tryz.ntmps38
    go_wp2_with fail
    refine (KB.out _).mono ?_
    rintro e w1 ⟨v1, rfl, hv1, hb1⟩
    obtain ⟨p0, p1, p2, p3, p4, pl, pn, pc, rfl⟩ := cells_re hv1
    have B1 := Lib.hid (B.out.go hb1)
    have HV := Lib.hid (leaf_any (ok' := okN ok w.heap.size) w1 hv1)
    clear hv1 hb1 B
    obtain ⟨c0, c1, c2, c3, c4, c5, f0, f1, f2, f3, f4, f5⟩ := cellsR B1.out.2.1
    go_wp2
    exact ret_ex (e := .eps) B1.out.2.1 HV.out B1.out.2.2 (by omega) Tryz.results38 rfl rfl
  | false =>
  rw [q2] at k2a
  cases q3 : a.isStar with
  | true =>
    rw [q3] at k6a
    rw [starE_star q3]
    clear q1 q2 q3 hrow hsa KB
    go_enter Tryz.func38, Tryz.ntmps38
    go_wp2
    exact ret_re (blk_at _ _ (by simp)) Tryz.results38 rfl rfl ⟨_, rfl, (HA.out.below (al2 w _ _)).imp fun _ _ h => Or.inl h, al2 w _ _⟩
  | false =>
    rw [q3] at k6a
    rw [starE_plain q1 q2 q3]
    have KM := Lib.hid fun W (hb : Below w.heap.size w W) => manyX_any a.rx _ W (HA.out.below hb)
    clear q1 q2 q3 hrow hsa KB HA
    go_enter Tryz.func38, Tryz.ntmps38
    go_wp2_with fail
    refine (KM.out _ B.out.2.2).mono ?_
    rintro e w1 ⟨v1, rfl, hv1, hb1⟩
    obtain ⟨p0, p1, p2, p3, p4, pl, pn, pc, rfl⟩ := cells_re hv1
    have B1 := Lib.hid (B.out.go hb1)
    have HV := Lib.hid (show ReAt (okN ok w.heap.size) w1 (.agg #[.int .u8 p0, .int .u64 p1, .int .u64 p2, .int .u64 p3, .int .u64 p4, .slice pl pn pc]) (Ex.star a).rx from hv1.imp fun b _ h => .inr (Nat.le_trans B.out.2.2.size h))
    clear hv1 hb1 B
    obtain ⟨c0, c1, c2, c3, c4, c5, f0, f1, f2, f3, f4, f5⟩ := cellsR B1.out.2.1
    go_wp2
    exact ret_ex (e := .star a) B1.out.2.1 HV.out B1.out.2.2 (by omega) Tryz.results38 rfl rfl
theorem sum_part (k : Nat) : ∀ e : Ex, Ex.sum (partE k e) ≤ e.size
  | .empty => by simp [partE, Ex.sum, Ex.size]
  | .eps => by simp [partE, Ex.sum, Ex.size]
  | .cls s => by simp [partE, Ex.sum, Ex.size]
  | .star a => by simp [partE, Ex.sum]
  | .seq a b => by
    have h1 := sum_part k a
    have h2 := sum_part k b
    unfold partE
    split
    · simp only [Ex.sum, List.map_append, List.sum_append, Ex.size] at *; omega
    · simp [Ex.sum]
  | .alt a b => by
    have h1 := sum_part k a
    have h2 := sum_part k b
    unfold partE
    split
    · simp only [Ex.sum, List.map_append, List.sum_append, Ex.size] at *; omega
    · simp [Ex.sum]
theorem sum_parts (k : Nat) (l : List Ex) : Ex.sum (partL k l) ≤ Ex.sum l := by
  induction l with
  | nil => simp [partL, Ex.sum]
  | cons e l ih =>
    have h := sum_part k e
    simp only [partL, List.flatMap_cons, Ex.sum, List.map_append, List.sum_append, List.map_cons, List.sum_cons] at *
    omega
theorem sum_nf (l : List Ex) : Ex.sum (l.map nfE) ≤ Ex.sum l := by
  induction l with
  | nil => simp [Ex.sum]
  | cons e l ih =>
    have h := nf_size e
    simp only [Ex.sum, List.map_cons, List.sum_cons] at *
    omega
theorem parts_len (k : Nat) (l : List Ex) : (partL k l).length ≤ Ex.sum l := by
  induction l with
  | nil => simp [partL]
  | cons e l ih =>
    have h := part_len k e
    simp only [partL, List.flatMap_cons, List.length_append, Ex.sum, List.map_cons, List.sum_cons] at *
    omega
theorem whole_len (k : Nat) (l : List Ex) : (partL k ((partL k l).map nfE)).length ≤ Ex.sum l :=
  Nat.le_trans (parts_len k _) (Nat.le_trans (sum_nf _) (sum_parts k l))
theorem leaf_nf {e : Ex} {k : Nat} {s : Ws} {ks : List Rx} (h : e.rx = .node k s ks) (h4 : e.isSeq = false) (h5 : e.isAlt = false) (h6 : e.isStar = false) : (nfE e).rx = .node k s [] := by
  cases e with
  | empty => rw [← show ks = [] from by simp only [Ex.rx] at h; injection h with _ _ h3; exact h3.symm, ← h]; rfl
  | eps => rw [← show ks = [] from by simp only [Ex.rx] at h; injection h with _ _ h3; exact h3.symm, ← h]; rfl
  | cls s => rw [← show ks = [] from by simp only [Ex.rx] at h; injection h with _ _ h3; exact h3.symm, ← h]; rfl
  | seq a b => cases h4
  | alt a b => cases h5
  | star a => cases h6
set_option maxHeartbeats 4000000 in
set_option maxRecDepth 100000 in
theorem normal_leaf {e : Ex} (h4 : e.isSeq = false) (h5 : e.isAlt = false) (h6 : e.isStar = false) {ok : Nat → Prop} (v : Value) (w : World) (h : ReAt ok w v e.rx) : Calls Tryz.prog 22 #[v] w (NewPost (nfE e).rx w) := by
  obtain ⟨ka, ⟨sa, sb, sc, sd⟩, ksa, hsa⟩ := rx_form e
  rw [hsa] at h
  obtain ⟨hk256, hsok, al, cap, rfl, hcap, _, hrow⟩ := h
  simp only
  rw [leaf_nf hsa h4 h5 h6]
  have k4a := kind_seq hsa
  have k5a := kind_alt hsa
  have k6a := kind_star hsa
  rw [h4] at k4a
  rw [h5] at k5a
  rw [h6] at k6a
  have HS := Lib.hid hsok
  clear hrow hcap hsa h4 h5 h6 hsok
  go_enter Tryz.func22, Tryz.ntmps22
  go_wp2
  exact ret_re (blk_at _ _ (by simp)) Tryz.results22 rfl rfl ⟨_, rfl, bareAt _ _ ka ⟨sa, sb, sc, sd⟩ hk256 HS.out, al2 w _ _⟩
set_option maxHeartbeats 8000000 in
set_option maxRecDepth 100000 in
theorem normal_step {N : Nat} (hN : N < 800000) (ih : NrmC N) : NrmC (N + 1) := by
  intro e hs hw ok v w h
  have h0 := h
  obtain ⟨ka, ⟨sa, sb, sc, sd⟩, ksa, hsa⟩ := rx_form e
  rw [hsa] at h
  obtain ⟨hk256, hsok, al, cap, rfl, hcap, _, hrow⟩ := h
  simp only at h0 ⊢
  have B := Lib.hid (Bn1.new w (.cells #[.int .u8 ka, .int .u64 sa, .int .u64 sb, .int .u64 sc, .int .u64 sd, .slice al ksa.length cap] 27))
  have IH := Lib.hid ih
  clear ih
  have k4a := kind_seq hsa
  have k5a := kind_alt hsa
  have k6a := kind_star hsa
  cases e with
  | seq a b =>
    simp only [Ex.rx] at hsa
    injection hsa with e1 e2 e3
    subst e1
    subst e3
    simp only [Ex.size] at hs
    have hsum : Ex.sum [a, b] < 900000 := by simp [Ex.sum]; omega
    obtain ⟨L, hL⟩ : ∃ L, L = (partL 4 [a, b]).map nfE := ⟨_, rfl⟩
    have hwl := Nat.lt_of_le_of_lt (whole_len 4 [a, b]) hsum
    have hpl := Nat.lt_of_le_of_lt (parts_len 4 [a, b]) hsum
    have KN := Lib.hid fun W (hb : Below w.heap.size w W) => normals_any (k := 4) IH.out (.inl rfl) ok [a, b] al cap W (fun x hx => by
      simp at hx
      rcases hx with rfl | rfl
      · exact ⟨by omega, hw.1⟩
      · exact ⟨by omega, hw.2⟩) (by simp) (by omega) (hrow.below hb)
    have KS := Lib.hid fun ok al cap W (h : RowAt ok W al (L.map Ex.rx)) => nmSeq_any ok L al cap W (by have := parts_len 4 [a, b]; rw [hL, List.length_map]; omega) (by rw [hL]; omega) h
    rw [← hL] at KN
    have hnode := seq_node a b
    rw [← hL] at hnode
    rw [hnode] at KS
    rw [show ([a, b] : List Ex).length = 2 from rfl, show (((4 : Nat) : Int)) = 4 from rfl] at KN
    rw [show ([a.rx, b.rx] : List Rx).length = 2 from rfl, show (((4 : Nat) : Int)) = 4 from rfl] at B ⊢
    generalize nfE (.seq a b) = res at *
    clear h0 hL hnode hwl hpl hsum k4a k5a k6a hw hrow hcap hsok e2 IH hk256
    go_enter Tryz.func22, Tryz.ntmps22
    go_wp2_with fail
    refine (KN.out _ B.out.2.2).mono ?_
    rintro x w1 ⟨al2, cap2, rfl, hcp, hr, hb1⟩
    have B1 := Lib.hid (B.out.go hb1)
    have KS1 := Lib.hid (KS.out _ al2 cap2 w1 hr)
    clear hcp hr hb1 B KN KS
    go_wp2_with fail
    refine KS1.out.mono ?_
    rintro x w2 ⟨v1, rfl, hv1, hb2⟩
    obtain ⟨p0, p1, p2, p3, p4, pl, pn, pc, rfl⟩ := cells_re hv1
    have B2 := Lib.hid (B1.out.go hb2)
    have HV := Lib.hid hv1
    have hlt := (Array.getElem?_eq_some_iff.1 B1.out.2.1).1
    clear hv1 hb2 KS1 B1
    obtain ⟨c0, c1, c2, c3, c4, c5, f0, f1, f2, f3, f4, f5⟩ := cellsR B2.out.2.1
    go_wp2
    exact ret_new B2.out.2.1 HV.out hlt B2.out.2.2 (by omega) Tryz.results22 rfl rfl
  | alt a b =>
    simp only [Ex.rx] at hsa
    injection hsa with e1 e2 e3
    subst e1
    subst e3
    simp only [Ex.size] at hs
    have hsum : Ex.sum [a, b] < 900000 := by simp [Ex.sum]; omega
    obtain ⟨L, hL⟩ : ∃ L, L = (partL 5 [a, b]).map nfE := ⟨_, rfl⟩
    have hwl := Nat.lt_of_le_of_lt (whole_len 5 [a, b]) hsum
    have hpl := Nat.lt_of_le_of_lt (parts_len 5 [a, b]) hsum
    have KN := Lib.hid fun W (hb : Below w.heap.size w W) => normals_any (k := 5) IH.out (.inr rfl) ok [a, b] al cap W (fun x hx => by
      simp at hx
      rcases hx with rfl | rfl
      · exact ⟨by omega, hw.1⟩
      · exact ⟨by omega, hw.2⟩) (by simp) (by omega) (hrow.below hb)
    have KS := Lib.hid fun ok al cap W (h : RowAt ok W al (L.map Ex.rx)) => nmAlt_any ok L al cap W (by have := parts_len 5 [a, b]; rw [hL, List.length_map]; omega) (by rw [hL]; omega) h
    rw [← hL] at KN
    have hnode := alt_node hw
    rw [← hL] at hnode
    rw [hnode] at KS
    rw [show ([a, b] : List Ex).length = 2 from rfl, show (((5 : Nat) : Int)) = 5 from rfl] at KN
    rw [show ([a.rx, b.rx] : List Rx).length = 2 from rfl, show (((5 : Nat) : Int)) = 5 from rfl] at B ⊢
    generalize nfE (.alt a b) = res at *
    clear h0 hL hnode hwl hpl hsum k4a k5a k6a hw hrow hcap hsok e2 IH hk256
    go_enter Tryz.func22, Tryz.ntmps22
    go_wp2_with fail
    refine (KN.out _ B.out.2.2).mono ?_
    rintro x w1 ⟨al2, cap2, rfl, hcp, hr, hb1⟩
    have B1 := Lib.hid (B.out.go hb1)
    have KS1 := Lib.hid (KS.out _ al2 cap2 w1 hr)
    clear hcp hr hb1 B KN KS
    go_wp2_with fail
    refine KS1.out.mono ?_
    rintro x w2 ⟨v1, rfl, hv1, hb2⟩
    obtain ⟨p0, p1, p2, p3, p4, pl, pn, pc, rfl⟩ := cells_re hv1
    have B2 := Lib.hid (B1.out.go hb2)
    have HV := Lib.hid hv1
    have hlt := (Array.getElem?_eq_some_iff.1 B1.out.2.1).1
    clear hv1 hb2 KS1 B1
    obtain ⟨c0, c1, c2, c3, c4, c5, f0, f1, f2, f3, f4, f5⟩ := cellsR B2.out.2.1
    go_wp2
    exact ret_new B2.out.2.1 HV.out hlt B2.out.2.2 (by omega) Tryz.results22 rfl rfl
  | star a =>
    simp only [Ex.rx] at hsa
    injection hsa with e1 e2 e3
    subst e1
    subst e3
    simp only [Ex.size] at hs
    obtain ⟨bk, off, rfl, hlt0, hn0⟩ := hrow.kid (i := 0) (by simp)
    simp only [List.getElem_cons_zero, Nat.zero_mul, Nat.add_zero] at hn0
    obtain ⟨kc, ⟨ca, cb, cc, cd⟩, ksc, hsc⟩ := rx_form a
    rw [hsc] at hn0
    obtain ⟨al0, cap0, i6, hrc⟩ := hn0.read
    simp only at i6 hrc
    rw [← hsc] at hrc
    have I6 := Lib.hid i6
    have KN := Lib.hid fun W (hb : Below w.heap.size w W) => IH.out a (by omega) hw ok _ W (hrc.below hb)
    have KS := Lib.hid fun ok v W (h : ReAt ok W v (nfE a).rx) => nstar_any (nfE a) ok v W h
    rw [show nfE (.star a) = starE (nfE a) from rfl]
    generalize starE (nfE a) = res at *
    generalize nfE a = na at *
    rw [show ([a.rx] : List Rx).length = 1 from rfl, show (((6 : Nat) : Int)) = 6 from rfl] at B ⊢
    have hcap1 : 1 ≤ cap := by simpa using hcap
    obtain ⟨c0, c1, c2, c3, c4, c5⟩ := six_keep hlt0 I6.out B.out.2.2
    clear h0 k4a k5a k6a hw hrow hcap hsok e2 IH hk256 hrc hsc hn0 i6
    go_enter Tryz.func22, Tryz.ntmps22
    go_wp2_with fail
    refine (KN.out _ B.out.2.2).mono ?_
    rintro x w1 ⟨v1, rfl, hv1, hb1⟩
    have B1 := Lib.hid (B.out.go hb1)
    have KS1 := Lib.hid (KS.out _ v1 w1 hv1)
    have hs1 := hb1.size
    clear hv1 hb1 KN KS c0 c1 c2 c3 c4 c5
    go_wp2_with fail
    refine KS1.out.mono ?_
    rintro x w2 ⟨v2, rfl, hv2, hb2⟩
    obtain ⟨p0, p1, p2, p3, p4, pl, pn, pc, rfl⟩ := cells_re hv2
    have B2 := Lib.hid (B1.out.go hb2)
    have HV := Lib.hid (hv2.imp (ok' := New (w.heap.size + 2)) fun b _ h => by
      unfold New at *
      rcases h with h | h
      · simpa using h
      · simp at hs1; omega)
    clear hv2 hb2 KS1 B1 B hs1
    obtain ⟨c0, c1, c2, c3, c4, c5, f0, f1, f2, f3, f4, f5⟩ := cellsR B2.out.2.1
    go_wp2
    exact ret_new B2.out.2.1 HV.out (by omega) B2.out.2.2 (by omega) Tryz.results22 rfl rfl
  | empty => exact normal_leaf rfl rfl rfl _ w h0
  | eps => exact normal_leaf rfl rfl rfl _ w h0
  | cls s => exact normal_leaf rfl rfl rfl _ w h0
theorem normal_all : ∀ N, N ≤ 800000 → NrmC N
  | 0, _ => fun e h => absurd h (by have := e.size_pos; omega)
  | N + 1, h => normal_step (by omega) (normal_all N (by omega))
theorem normal_any {e : Ex} (hs : e.size ≤ 800000) (hw : e.Wf) {ok : Nat → Prop} (v : Value) (w : World) (h : ReAt ok w v e.rx) : Calls Tryz.prog 22 #[v] w (NewPost (nfE e).rx w) :=
  normal_all 800000 (Nat.le_refl _) e hs hw ok v w h
open Go.RowKit
theorem normX_no {r : Rx} (h : mayR r = false) : normX r = .node 0 Ws.nil [] := by unfold normX; rw [exX_no h]; rfl
theorem normX_of {e : Ex} (we : e.Wf) (hs : e.size ≤ 2000) : normX e.rx = (nfE e).rx := by unfold normX; rw [exX_of we hs]; rfl
set_option maxHeartbeats 2000000 in
set_option maxRecDepth 100000 in
theorem normL_any {ok : Nat → Prop} (r : Rx) (v : Value) (w : World) (h : ReAt ok w v r) :
    Calls Tryz.prog 11 #[v] w (NewPost (normX r) w) := by
  obtain ⟨x0, x1, x2, x3, x4, xl, xn, xc, rfl⟩ := cells_re h
  have B := Lib.hid (Bn1.new w (.cells #[.int .u8 x0, .int .u64 x1, .int .u64 x2, .int .u64 x3, .int .u64 x4, .slice xl xn xc] 27))
  have HB2 := Lib.hid (al2 w (.cells #[.int .u8 x0, .int .u64 x1, .int .u64 x2, .int .u64 x3, .int .u64 x4, .slice xl xn xc] 27) zR)
  have hr := row_new (h.below HB2.out)
  have hsz : ((w.alloc (.cells #[.int .u8 x0, .int .u64 x1, .int .u64 x2, .int .u64 x3, .int .u64 x4, .slice xl xn xc] 27)).alloc zR).heap.size = w.heap.size + 2 := by simp
  rw [hsz] at hr
  have HR := Lib.hid hr
  have KM := Lib.hid fun (al : Option Addr) (W : World) (h : RowAt (fun _ => True) W al [r]) => mayX [r] al 1 W (by simp) h
  rw [show [r].length = 1 from rfl, show [r].all mayR = mayR r from by simp] at KM
  have B3 := Lib.hid (B.out.go ((Below.refl _ _).alloc (Nat.le_refl _) (.cells #[.int .u8 x0, .int .u64 x1, .int .u64 x2, .int .u64 x3, .int .u64 x4, .slice xl xn xc] 27)))
  cases hm : mayR r with
  | false =>
    rw [normX_no hm]
    rw [hm] at KM
    clear hm h hr hsz B HB2
    go_enter Tryz.func11, Tryz.ntmps11
    go_wp2_with fail
    refine (KM.out _ _ HR.out).mono ?_
    rintro e w1 ⟨rfl, hb1⟩
    have B1 := Lib.hid (B3.out.go hb1)
    clear hb1 B3 KM HR
    obtain ⟨c0, c1, c2, c3, c4, c5, f0, f1, f2, f3, f4, f5⟩ := cellsR B1.out.2.1
    go_wp2
    exact ret_re (putR B1.out.2.1 _ _ _ _ _ _) Tryz.results11 rfl rfl ⟨_, rfl, bareAt _ _ 0 Ws.nil (by decide) Ws.nil_ok, putB B1.out.2.2 (by omega) _ _ _ _ _ _⟩
  | true =>
    obtain ⟨e0, he0, we, hs⟩ := may_ex h hm
    rw [show normX r = (nfE e0).rx from by rw [← he0]; exact normX_of we hs]
    rw [hm] at KM
    have KN := Lib.hid fun W (hb : Below w.heap.size w W) => normal_any (e := e0) (by omega) we (.agg #[.int .u8 x0, .int .u64 x1, .int .u64 x2, .int .u64 x3, .int .u64 x4, .slice xl xn xc]) W (by rw [he0]; exact h.below hb)
    clear hm h he0 hr hsz B HB2
    go_enter Tryz.func11, Tryz.ntmps11
    go_wp2_with fail
    refine (KM.out _ _ HR.out).mono ?_
    rintro e w1 ⟨rfl, hb1⟩
    have B1 := Lib.hid (B3.out.go hb1)
    clear hb1 B3 KM HR
    obtain ⟨c0, c1, c2, c3, c4, c5, -⟩ := cellsR B1.out.1
    go_wp2_with fail
    refine (KN.out _ B1.out.2.2).mono ?_
    rintro e w2 ⟨v2, rfl, hv2, hb2⟩
    obtain ⟨q0, q1, q2, q3, q4, ql, qn, qc, rfl⟩ := cells_re hv2
    have B2 := Lib.hid (B1.out.go hb2)
    have HV := Lib.hid hv2
    have hlt := (Array.getElem?_eq_some_iff.1 B1.out.2.1).1
    clear hv2 hb2 B1 c0 c1 c2 c3 c4 c5
    obtain ⟨c0, c1, c2, c3, c4, c5, f0, f1, f2, f3, f4, f5⟩ := cellsR B2.out.2.1
    go_wp2
    exact ret_new B2.out.2.1 HV.out hlt B2.out.2.2 (by omega) Tryz.results11 rfl rfl
end Go.Proofs.YtiegejbbjlhpdaaGreatDoor
