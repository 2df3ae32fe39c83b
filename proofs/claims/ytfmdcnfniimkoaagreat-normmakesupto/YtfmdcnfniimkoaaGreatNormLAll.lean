/- Lemmas of mine, merged: NormL, NormQ, NormR, NormS, NormT, NormU, NormV, NormMakesW. -/
import Derived.Deep.CutRange
import Derived.Test.YtfmdcnfniimkoaaGreatRdrDAll
import Derived.Test.YtfmdcnfniimkoaaGreatOrdOAll
import Derived.Test.YtfmdcnfniimkoaaGreatRexEAll
import Derived.Test.YtfmdcnfniimkoaaGreatRexIAll
import Derived.Test.YtfmdcnfniimkoaaGreatReadAAll
import Derived.Test.YtfmdcnfniimkoaaGreatSetDAll
import Derived.Test.YtfmdcnfniimkoaaGreatSetAAll
import Derived.Deep.AppendLies
import Derived.Test.YtfmdcnfniimkoaaGreatRexBAll
/- norm.alt. Made by wip/r8-g.py. -/
namespace Go.Proofs.YtfmdcnfniimkoaaGreat
open Go.RowKit
theorem onceR_len (l : List Rx) : (onceR l).length ≤ l.length := by
  have := onceFrom_length l []
  simpa [onceR] using this
theorem gathP_len (p : List Ex) : (gathP p).length ≤ p.length + 1 := by
  have h : (bareL p).length ≤ p.length := List.length_filter_le _ _
  unfold gathP
  split
  · omega
  · simp only [List.length_append, List.length_singleton]; omega
theorem ofR_some {s : Ws} (h : s ≠ Ws.nil) : ofR s = (Ex.cls s).rx := by
  unfold ofR
  rw [if_neg (fun e => h (sameW_iff.1 e))]
  rfl
def CutP (B : Nat) (X : Nat → Prop) (o : Nat) (ps : List Ex) (W1 w : World) : Prop := PV B X (Lo B) o ps w ∧ Below B W1 w
/-- Sorted, each once, then Or: call by call. -/
theorem last_any {ok : Nat → Prop} (ps : List Ex) (al : Option Addr) (cap : Nat) (w : World) (hl : ps.length ≤ 1000000) (h : RowAt ok w al (ps.map Ex.rx)) :
    Calls Tryz.prog 76 #[.slice al ps.length cap] w fun x w3 => ∃ (n3 : Nat) (al3 : Option Addr), x = .returned (.slice al3 n3 n3) ∧ Below w.heap.size w w3 ∧
      Calls Tryz.prog 75 #[.slice al3 n3 n3] w3 fun x w4 => ∃ (n4 : Nat) (al4 : Option Addr), x = .returned (.slice al4 n4 n4) ∧ Below w3.heap.size w3 w4 ∧
        Calls Tryz.prog 71 #[.slice al4 n4 n4] w4 (NewPost (foldA (canE ps)).rx w4) := by
  have K := sort_any (ps.map Ex.rx) al cap w (by rw [List.length_map]; exact hl) h
  rw [List.length_map] at K
  refine K.mono ?_
  rintro x w3 ⟨al3, rfl, hr3, hb3⟩
  refine ⟨_, al3, rfl, hb3, ?_⟩
  have hS : (sortR (ps.map Ex.rx)).length ≤ 1000000 := by rw [sortR_length, List.length_map]; exact hl
  refine (once_any (sortR (ps.map Ex.rx)) al3 _ w3 hS hr3).mono ?_
  rintro x w4 ⟨al4, rfl, hr4, hb4⟩
  refine ⟨_, al4, rfl, hb4, ?_⟩
  rw [foldA_rx, canE_map]
  exact or_any _ al4 _ w4 (Nat.lt_of_le_of_lt (onceR_len _) (by omega)) hr4
set_option maxRecDepth 100000 in
set_option maxHeartbeats 8000000 in
theorem nmAlt_any (ok : Nat → Prop) (l : List Ex) (al0 : Option Addr) (cap : Nat) (w : World) (hlen : l.length < 2199023255552) (hM : (partL 5 l).length ≤ 900000) (hR : RowAt ok w al0 (l.map Ex.rx)) :
    Calls Tryz.prog 44 #[.slice al0 l.length cap] w (NewPost (altE l).rx w) := by
  obtain ⟨W1, hW1⟩ : ∃ x, x = ((w.alloc zR).alloc (.cells #[.slice none 0 0] 25)).alloc (.cells #[.int .u64 0, .int .u64 0, .int .u64 0, .int .u64 0] 24) := ⟨_, rfl⟩
  have hb1 : Below w.heap.size w W1 := by rw [hW1]; exact al3 w _ _ _
  obtain ⟨hz, ho, hc, hsz⟩ := three_new w zR (.cells #[.slice none 0 0] 25) (.cells #[.int .u64 0, .int .u64 0, .int .u64 0, .int .u64 0] 24)
  rw [← hW1] at hz ho hc hsz
  have hB : w.heap.size + 1 ≤ W1.heap.size := by omega
  have hR1 : RowAt (Lo (w.heap.size + 1)) W1 al0 (l.map Ex.rx) := (hR.imp (ok' := Lo (w.heap.size + 1)) fun b hb _ => Nat.lt_succ_of_lt hb).below hb1
  obtain ⟨X, hX⟩ : ∃ X : Nat → Prop, X = fun b => b = w.heap.size + 1 ∨ b = w.heap.size + 2 := ⟨_, rfl⟩
  have hXB : ∀ x, X x → w.heap.size + 1 ≤ x := fun x h => by rw [hX] at h; rcases h with rfl | rfl <;> omega
  have hXo : X (w.heap.size + 1) := by rw [hX]; exact .inl rfl
  have hXc : X (w.heap.size + 2) := by rw [hX]; exact .inr rfl
  have hXl : ∀ x, X x → x < W1.heap.size := fun x h => by rw [hX] at h; rcases h with rfl | rfl <;> omega
  have hT : Tell 1000000 (w.heap.size + 1) W1 73 #[.pointer (some ⟨w.heap.size + 2, 0, none⟩), .pointer (some ⟨w.heap.size + 1, 0, none⟩)] (AltI (w.heap.size + 1) X (w.heap.size + 1) (w.heap.size + 2)) (fun _ => True) := by
    refine ⟨fun v W => rfl, fun done W W' h hb => ⟨h.1.below hb, h.2.1.below hb h.2.1.lt, h.2.2⟩, fun done e v W hd hI hB' _ hre => ?_⟩
    exact alt1_any hXo hXc (by omega) hXB (Nat.le_trans hB hB'.size) hd hI hre
  have K0 := each_any (k := 5) (.inr rfl) hB hT (Ex.sum l) l al0 cap [] W1 (Nat.le_refl _) hlen hR1 (fun _ _ => trivial) (by simp only [List.nil_append]; omega) ⟨PV.start ho hXl, hc, Ws.nil_ok⟩ (Below.refl _ _)
  simp only [List.nil_append] at K0
  rw [altE_part]
  generalize partL 5 l = p at *
  have KF := Lib.hid fun al cap W (h : RowAt (fun b => Lo (w.heap.size + 1) b ∨ w.heap.size + 1 ≤ b) W al ((gathP p).map Ex.rx)) => last_any (gathP p) al cap W (Nat.le_trans (gathP_len p) (by omega)) h
  generalize foldA (canE (gathP p)) = res at *
  have HG := Lib.hid (show gathP p = if setE p = Ws.nil then bareL p else bareL p ++ [.cls (setE p)] from rfl)
  have hbl : (bareL p).length ≤ 900000 := Nat.le_trans (List.length_filter_le _ _) hM
  have K := Lib.hid K0
  rw [show (((5 : Nat) : Int)) = 5 from rfl] at K
  have HB1 := Lib.hid hb1
  have HW1 := Lib.hid hW1
  have HZ := Lib.hid fun w2 (h : Below (w.heap.size + 1) W1 w2) => (h.block _ (Nat.lt_succ_self _)).trans hz
  have hsz2 : w.heap.size < W1.heap.size := by omega
  have HOK := Lib.hid (show ∀ b, Lo (w.heap.size + 1) b → ¬ X b from fun b h hb => by have := hXB b hb; have : b < w.heap.size + 1 := h; omega)
  have hBo : w.heap.size + 1 ≤ w.heap.size + 1 := Nat.le_refl _
  clear hR hR1 hT hb1 ho hc hz hX hXB hXl K0
  go_enter Tryz.func44, Tryz.ntmps44
  go_wp2_with fail
  rw [← HW1.out]
  refine K.out.mono ?_
  rintro x w2 ⟨rfl, hI, hb2⟩
  obtain ⟨hP, hV, hsok⟩ := hI
  obtain ⟨⟨ta, tb, tc, td⟩, ht⟩ : ∃ t, t = setE p := ⟨_, rfl⟩
  rw [← ht] at hV hsok HG
  obtain ⟨⟨t0, t1, t2, t3⟩, -⟩ := hV.all
  have HBC := Lib.hid hb2
  have HP := Lib.hid hP
  have HVB := Lib.hid hV
  have HSK := Lib.hid hsok
  clear hP hV hsok hb2 K HW1 ht
  by_cases hn : (⟨ta, tb, tc, td⟩ : Ws) = Ws.nil
  · rw [hn, if_pos rfl] at HG
    injection hn with n0 n1 n2 n3
    subst n0 n1 n2 n3
    have HPV : Hid (PV (w.heap.size + 1) X (Lo (w.heap.size + 1)) (w.heap.size + 1) (gathP p) w2) := Lib.hid (by rw [HG.out]; exact HP.out)
    have EQ := eqW_yes Ws.nil
    rw [nil_v] at EQ
    clear HG HP
    generalize gathP p = ps at *
    obtain ⟨al2, cap2, hv, hcp, hr⟩ := HPV.out.out
    obtain ⟨c0, -⟩ := var_cell hv
    have HZ2 := Lib.hid (HZ.out w2 HBC.out)
    have HB2 := Lib.hid (HB1.out.trans (HBC.out.mono (Nat.le_succ _)))
    have hs2 : w.heap.size < w2.heap.size := Nat.lt_of_lt_of_le hsz2 HBC.out.size
    have KS := Lib.hid (KF.out al2 cap2 w2 hr)
    clear hv hcp hr
    go_wp2_with fail
    refine KS.out.mono ?_
    rintro x w3 ⟨n3, al3, rfl, hb3, K3⟩
    have K3 := Lib.hid K3
    have hz3 := (hb3.block _ hs2).trans HZ2.out
    have HZ3 := Lib.hid hz3
    have HB3 := Lib.hid (HB2.out.trans (hb3.mono HB2.out.size))
    have hs3 : w.heap.size < w3.heap.size := Nat.lt_of_lt_of_le hs2 hb3.size
    clear hb3 hz3 c0 KS
    go_wp2_with fail
    refine K3.out.mono ?_
    rintro x w4 ⟨n4, al4, rfl, hb4, K4⟩
    have K4 := Lib.hid K4
    have hz4 := (hb4.block _ hs3).trans HZ3.out
    have HZ4 := Lib.hid hz4
    have HB4 := Lib.hid (HB3.out.trans (hb4.mono HB3.out.size))
    have hs4 : w.heap.size < w4.heap.size := Nat.lt_of_lt_of_le hs3 hb4.size
    clear hb4 hz4 K3
    go_wp2_with fail
    refine K4.out.mono ?_
    rintro x w5 ⟨v1, rfl, hv1, hb5⟩
    obtain ⟨p0, p1, p2, p3, p4, pl, pn, pc, rfl⟩ := cells_re hv1
    have hz5 := (hb5.block _ hs4).trans HZ4.out
    have HV := Lib.hid hv1
    have HZ5 := Lib.hid hz5
    have HB5 := Lib.hid (HB4.out.trans (hb5.mono HB4.out.size))
    obtain ⟨d0, d1, d2, d3, d4, d5, f0, f1, f2, f3, f4, f5⟩ := cellsR hz5
    clear hv1 hb5 hz5 K4
    go_wp2
    exact ret_new HZ5.out HV.out hs4 HB5.out (Nat.le_refl _) Tryz.results44 rfl rfl
  · rw [if_neg hn] at HG
    have EQ := eqW_no hn
    rw [nil_v] at EQ
    simp only [Ws.v] at EQ
    have CE := Lib.hid (show ∀ x w3, PushPost (w.heap.size + 1) X (Lo (w.heap.size + 1)) (w.heap.size + 1) (bareL p ++ [.cls ⟨ta, tb, tc, td⟩]) w2 x w3 → CutP (w.heap.size + 1) X (w.heap.size + 1) (gathP p) W1 w3 from fun x w3 h => ⟨by rw [HG.out]; exact h.2.1, HBC.out.trans h.2.2.1⟩)
    have KOF := Lib.hid fun W => ofX_any ⟨ta, tb, tc, td⟩ W HSK.out
    rw [ofR_some hn] at KOF
    simp only [Ws.v] at KOF
    clear HG
    generalize gathP p = qs at *
    generalize bareL p = ps at *
    obtain ⟨v, xs, h1, hown, h3, h4⟩ := HP.out
    obtain ⟨al, vc, rfl⟩ : ∃ al c, v = .slice al ps.length c := own_form hown
    obtain ⟨i0, z0, hi0, hz0, hz1, hz2, hz3⟩ := infoR2
    have hz2' := Lib.hid hz2
    have HX : X (w.heap.size + 1) := hXo
    have HOWN := Lib.hid hown
    have H3 := Lib.hid h3
    have H4 := Lib.hid h4
    have hBw : w.heap.size + 1 ≤ w2.heap.size := Nat.le_trans hB HBC.out.size
    have V0 := Lib.hid h1
    clear hz2 hown h3 h4 h1 HP
    go_upto_region 5 with fail
    clear EQ t0 t1 t2 t3
    go_cut [2] from 11 to 17 (fun v wx => v = .pointer (some ⟨w.heap.size, 0, none⟩) ∧ CutP (w.heap.size + 1) X (w.heap.size + 1) qs W1 wx)
    case first =>
      have WB := Lib.hid fun x (hx : Below w2.heap.size w2 x) => hx
      have VO := Lib.hid fun x (hx : Below w2.heap.size w2 x) => (hx.block _ (H4.out _ HX).1).trans V0.out
      have CB := Lib.hid fun x (hx : Below w2.heap.size w2 x) => (HVB.out.below hx HVB.out.lt).all
      refine wp_region_orderA 5 (fun i => ([SP.eq (.slice al ps.length vc), SP.eq (.agg #[.int .u64 ta, .int .u64 tb, .int .u64 tc, .int .u64 td]), SP.ex (fun b => Lo (w.heap.size + 1) b ∧ (Value.slice al ps.length vc).ownBlock ≠ some b) (.cls ⟨ta, tb, tc, td⟩), SP.eq (.int .i64 ps.length), SP.zero] : List SP).getD i SP.free) (fun _ => false) (fun _ _ _ h => by cases h) (by kernel_rfl) (by kernel_rfl) ⟨?_, ?_, ?_, ?_, ?_, trivial⟩ ?_
      · intro a x K out get hb hK
        rw [if_pos (wanted_none rfl)]
        have o3 : a.tmps[3]? = some (.pointer (some ⟨w.heap.size + 1, 0, none⟩)) := out 3 (by kernel_rfl)
        obtain ⟨c0, -⟩ := var_cell (VO.out x hb)
        clear out get
        go_simp
        exact hK _ _ rfl (Below.refl _ _) (fun h => by cases h)
      · intro a x K out get hb hK
        rw [if_pos (wanted_none rfl)]
        have o4 : a.tmps[4]? = some (.pointer (some ⟨w.heap.size + 1 + 1, 0, none⟩)) := out 4 (by kernel_rfl)
        obtain ⟨⟨c0, c1, c2, c3⟩, -⟩ := CB.out x hb
        clear out get
        go_simp
        exact hK _ _ rfl (Below.refl _ _) (fun h => by cases h)
      · intro a x K out get hb hK
        rw [if_pos (wanted_none rfl)]
        obtain ⟨y12, hy12, rfl⟩ := get 1 _ _ rfl rfl (by kernel_rfl)
        clear out get
        go_simp
        refine (KOF.out x).mono ?_
        rintro e w2 ⟨v2, rfl, hv2, hb2⟩
        exact hK _ _ (ExV.of (leaf_any w2 hv2) fun _ _ h => h) hb2 (fun h => by cases h)
      · intro a x K out get hb hK
        rw [if_pos (wanted_none rfl)]
        obtain ⟨y11, hy11, rfl⟩ := get 0 _ _ rfl rfl (by kernel_rfl)
        clear out get
        go_simp
        exact hK _ _ rfl (Below.refl _ _) (fun h => by cases h)
      · intro a x K out get hb hK
        rw [if_pos (wanted_none rfl)]
        clear out get
        go_simp
        exact hK _ _ ⟨_, rfl, blk_new _ _⟩ (bel_al _ _) (fun h => by cases h)
      refine ao_finA (isD := fun s => decide (11 ≤ s) && decide (s ≤ 17)) (by kernel_rfl) ?_
      intro f x hv hne hb
      clear hne
      have e11 : f 11 = _ := hv 0 _ _ (by decide) rfl rfl
      have e14 : f 14 = _ := hv 3 _ _ (by decide) rfl rfl
      obtain ⟨p0, p1, p2, p3, p4, pl, pn, pc, e13, he⟩ := hv 2 _ _ (by decide) rfl rfl
      obtain ⟨gz, e15, hz⟩ := hv 4 _ _ (by decide) rfl rfl
      have hbx := WB.out x hb
      have hox := VO.out x hb
      have HE := Lib.hid he
      have hownx := ownR_below HOWN.out hbx
      have hBx := Nat.le_trans hBw hbx.size
      clear hv he
      generalize hF : (Act.mk (List.toArray (frm f _ 0 _)) _) = fr
      simp [frm] at hF
      rw [e11, e14, e13, e15] at hF
      subst hF
      generalize f 12 = u12 at *
      generalize f 16 = u16 at *
      generalize f 17 = u17 at *
      clear e11 e14 e13 e15 f
      refine wp_end (n := 5) (by kernel_rfl) rfl rfl rfl rfl ?_
      refine step_append_lies _ rfl (.tmp 11) (.tmp 15) 25 rfl (w.heap.size + 1) 27 i0 z0 6 64 Tryz.underlying25 hi0 hz0 hz1 hz2'.out hz3 (by decide) (.slice al ps.length vc) ps.length xs rfl hownx ⟨gz, 0, none⟩ 1 1 [.int .u8 0, .int .u64 0, .int .u64 0, .int .u64 0, .int .u64 0, .slice none 0 0] rfl rfl (zero_at hz) zero6_one (by decide) (by unfold maxLen; omega) (by omega) hBx _ rfl ?_
      intro g' cap' w2 hown hgrow hat hlt
      obtain ⟨⟨n0, n1, n2, n3, n4, n5⟩, m0, m1, m2, m3, m4, m5⟩ := new6 HOWN.out.1 hown
      have hne : ¬ w.heap.size + 1 = g' := fun e => by
        rcases hat with h | h
        · exact (H4.out _ HX).2 (by rw [h, e])
        · have := (H4.out _ HX).1; have := hbx.size; omega
      have hne' : ¬ g' = w.heap.size + 1 := fun e => hne e.symm
      have hvo := (hgrow.block _ (Nat.lt_of_lt_of_le (H4.out _ HX).1 hbx.size) fun e => (H4.out _ HX).2 e.symm).trans hox
      obtain ⟨v0c, v0f⟩ := var_cell hvo
      have hidx : (ps.length : Int) < (ps.length : Int) + 1 := by omega
      have HOW := Lib.hid hown
      have HGR := Lib.hid hgrow
      have HAT := Lib.hid hat
      have HBX := Lib.hid hbx
      have HVO := Lib.hid hvo
      clear hown hgrow hat hbx hvo hox hz hownx hBx hb
      refine ⟨?_, ?_⟩
      · rw [if_pos (wanted_none rfl)]
        go_simp
        refine ⟨?_, ?_⟩
        · go_wp2_with fail
          go_meet
          exact ⟨rfl, CE.out _ _ (push_closeA HX HOK.out hBo hBw HOWN.out H3.out H4.out HBX.out HE.out HOW.out HGR.out HAT.out HVO.out hne)⟩
        · go_wp2_with fail
          go_meet
          exact ⟨rfl, CE.out _ _ (push_closeB HX HOK.out hBo hBw HOWN.out H3.out H4.out HBX.out HE.out HOW.out HGR.out HAT.out HVO.out hne)⟩
      · go_wp2_with fail
        go_meet
        exact ⟨rfl, CE.out _ _ (push_closeB HX HOK.out hBo hBw HOWN.out H3.out H4.out HBX.out HE.out HOW.out HGR.out HAT.out HVO.out hne)⟩
    case rest =>
      obtain ⟨rfl, hcp0⟩ := hcut
      have HPV := Lib.hid hcp0.1
      have HBD := Lib.hid hcp0.2
      clear hcp0 HBC HVB HOWN H3 H4 V0 CE KOF
      obtain ⟨al2, cap2, hv, hcp, hr⟩ := HPV.out.out
      obtain ⟨c0, -⟩ := var_cell hv
      have HZ2 := Lib.hid (HZ.out wc HBD.out)
      have HB2 := Lib.hid (HB1.out.trans (HBD.out.mono (Nat.le_succ _)))
      have hs2 : w.heap.size < wc.heap.size := Nat.lt_of_lt_of_le hsz2 HBD.out.size
      have KS := Lib.hid (KF.out al2 cap2 wc hr)
      clear hv hcp hr
      go_wp2_with fail
      refine KS.out.mono ?_
      rintro x w3 ⟨n3, al3, rfl, hb3, K3⟩
      have K3 := Lib.hid K3
      have hz3 := (hb3.block _ hs2).trans HZ2.out
      have HZ3 := Lib.hid hz3
      have HB3 := Lib.hid (HB2.out.trans (hb3.mono HB2.out.size))
      have hs3 : w.heap.size < w3.heap.size := Nat.lt_of_lt_of_le hs2 hb3.size
      clear hb3 hz3 c0 KS
      go_wp2_with fail
      refine K3.out.mono ?_
      rintro x w4 ⟨n4, al4, rfl, hb4, K4⟩
      have K4 := Lib.hid K4
      have hz4 := (hb4.block _ hs3).trans HZ3.out
      have HZ4 := Lib.hid hz4
      have HB4 := Lib.hid (HB3.out.trans (hb4.mono HB3.out.size))
      have hs4 : w.heap.size < w4.heap.size := Nat.lt_of_lt_of_le hs3 hb4.size
      clear hb4 hz4 K3
      go_wp2_with fail
      refine K4.out.mono ?_
      rintro x w5 ⟨v1, rfl, hv1, hb5⟩
      obtain ⟨p0, p1, p2, p3, p4, pl, pn, pc, rfl⟩ := cells_re hv1
      have hz5 := (hb5.block _ hs4).trans HZ4.out
      have HV := Lib.hid hv1
      have HZ5 := Lib.hid hz5
      have HB5 := Lib.hid (HB4.out.trans (hb5.mono HB4.out.size))
      obtain ⟨d0, d1, d2, d3, d4, d5, f0, f1, f2, f3, f4, f5⟩ := cellsR hz5
      clear hv1 hb5 hz5 K4
      go_wp2
      exact ret_new HZ5.out HV.out hs4 HB5.out (Nat.le_refl _) Tryz.results44 rfl rfl
end Go.Proofs.YtfmdcnfniimkoaaGreat
/- norm.star, normal. -/
namespace Go.Proofs.YtfmdcnfniimkoaaGreat
open Go.RowKit
set_option maxHeartbeats 4000000 in
set_option maxRecDepth 100000 in
theorem nstar_any (a : Ex) (ok : Nat → Prop) (v : Value) (w : World) (h : ReAt ok w v a.rx) : Calls Tryz.prog 45 #[v] w (ExPost ok (starE a) w) := by
  obtain ⟨ka, ⟨sa, sb, sc, sd⟩, ksa, hsa⟩ := rx_form a
  have HA := Lib.hid h
  rw [hsa] at h
  obtain ⟨_, _, al, cap, rfl, hcap, _, hrow⟩ := h
  simp only at HA ⊢
  have k1a := kind_emp hsa
  have k2a := kind_eps hsa
  have k6a := kind_star hsa
  have KB := Lib.hid fun W => then_any (ok := fun _ => True) [] none 0 W (by decide) (.inl rfl)
  rw [show foldR 4 2 [] = Ex.eps.rx from rfl, show ([] : List Rx).length = 0 from rfl] at KB
  have B := Lib.hid (Bn1.new w (.cells #[.int .u8 ka, .int .u64 sa, .int .u64 sb, .int .u64 sc, .int .u64 sd, .slice al ksa.length cap] 27))
  cases q1 : a.isEmp with
  | true =>
    rw [q1] at k1a
    rw [starE_bare (.inl q1)]
    clear q1 hrow hsa k2a k6a HA
    go_enter Tryz.func45, Tryz.ntmps45
    go_wp2_with fail
    refine (KB.out _).mono ?_
    rintro e w1 ⟨v1, rfl, hv1, hb1⟩
    obtain ⟨p0, p1, p2, p3, p4, pl, pn, pc, rfl⟩ := cells_re hv1
    have B1 := Lib.hid (B.out.go hb1)
    have HV := Lib.hid (leaf_any (ok' := okN ok w.heap.size) w1 hv1)
    clear hv1 hb1 B
    obtain ⟨c0, c1, c2, c3, c4, c5, f0, f1, f2, f3, f4, f5⟩ := cellsR B1.out.2.1
    go_wp2
    exact ret_ex (e := .eps) B1.out.2.1 HV.out B1.out.2.2 (by omega) Tryz.results45 rfl rfl
  | false =>
  rw [q1] at k1a
  cases q2 : a.isEps with
  | true =>
    rw [q2] at k2a
    rw [starE_bare (.inr q2)]
    clear q1 q2 hrow hsa k6a HA
    go_enter Tryz.func45, Tryz.ntmps45
    go_wp2_with fail
    refine (KB.out _).mono ?_
    rintro e w1 ⟨v1, rfl, hv1, hb1⟩
    obtain ⟨p0, p1, p2, p3, p4, pl, pn, pc, rfl⟩ := cells_re hv1
    have B1 := Lib.hid (B.out.go hb1)
    have HV := Lib.hid (leaf_any (ok' := okN ok w.heap.size) w1 hv1)
    clear hv1 hb1 B
    obtain ⟨c0, c1, c2, c3, c4, c5, f0, f1, f2, f3, f4, f5⟩ := cellsR B1.out.2.1
    go_wp2
    exact ret_ex (e := .eps) B1.out.2.1 HV.out B1.out.2.2 (by omega) Tryz.results45 rfl rfl
  | false =>
  rw [q2] at k2a
  cases q3 : a.isStar with
  | true =>
    rw [q3] at k6a
    rw [starE_star q3]
    clear q1 q2 q3 hrow hsa KB
    go_enter Tryz.func45, Tryz.ntmps45
    go_wp2
    exact ret_re (blk_at _ _ (by simp)) Tryz.results45 rfl rfl ⟨_, rfl, (HA.out.below (al2 w _ _)).imp fun _ _ h => Or.inl h, al2 w _ _⟩
  | false =>
    rw [q3] at k6a
    rw [starE_plain q1 q2 q3]
    have KM := Lib.hid fun W (hb : Below w.heap.size w W) => manyX_any a.rx _ W (HA.out.below hb)
    clear q1 q2 q3 hrow hsa KB HA
    go_enter Tryz.func45, Tryz.ntmps45
    go_wp2_with fail
    refine (KM.out _ B.out.2.2).mono ?_
    rintro e w1 ⟨v1, rfl, hv1, hb1⟩
    obtain ⟨p0, p1, p2, p3, p4, pl, pn, pc, rfl⟩ := cells_re hv1
    have B1 := Lib.hid (B.out.go hb1)
    have HV := Lib.hid (show ReAt (okN ok w.heap.size) w1 (.agg #[.int .u8 p0, .int .u64 p1, .int .u64 p2, .int .u64 p3, .int .u64 p4, .slice pl pn pc]) (Ex.star a).rx from hv1.imp fun b _ h => .inr (Nat.le_trans B.out.2.2.size h))
    clear hv1 hb1 B
    obtain ⟨c0, c1, c2, c3, c4, c5, f0, f1, f2, f3, f4, f5⟩ := cellsR B1.out.2.1
    go_wp2
    exact ret_ex (e := .star a) B1.out.2.1 HV.out B1.out.2.2 (by omega) Tryz.results45 rfl rfl
theorem sum_part (k : Nat) : ∀ e : Ex, Ex.sum (partE k e) ≤ e.size
  | .empty => by simp [partE, Ex.sum, Ex.size]
  | .eps => by simp [partE, Ex.sum, Ex.size]
  | .cls s => by simp [partE, Ex.sum, Ex.size]
  | .star a => by simp [partE, Ex.sum]
  | .seq a b => by
    have h1 := sum_part k a
    have h2 := sum_part k b
    unfold partE
    split
    · simp only [Ex.sum, List.map_append, List.sum_append, Ex.size] at *; omega
    · simp [Ex.sum]
  | .alt a b => by
    have h1 := sum_part k a
    have h2 := sum_part k b
    unfold partE
    split
    · simp only [Ex.sum, List.map_append, List.sum_append, Ex.size] at *; omega
    · simp [Ex.sum]
theorem sum_parts (k : Nat) (l : List Ex) : Ex.sum (partL k l) ≤ Ex.sum l := by
  induction l with
  | nil => simp [partL, Ex.sum]
  | cons e l ih =>
    have h := sum_part k e
    simp only [partL, List.flatMap_cons, Ex.sum, List.map_append, List.sum_append, List.map_cons, List.sum_cons] at *
    omega
theorem sum_nf (l : List Ex) : Ex.sum (l.map nfE) ≤ Ex.sum l := by
  induction l with
  | nil => simp [Ex.sum]
  | cons e l ih =>
    have h := nf_size e
    simp only [Ex.sum, List.map_cons, List.sum_cons] at *
    omega
theorem parts_len (k : Nat) (l : List Ex) : (partL k l).length ≤ Ex.sum l := by
  induction l with
  | nil => simp [partL]
  | cons e l ih =>
    have h := part_len k e
    simp only [partL, List.flatMap_cons, List.length_append, Ex.sum, List.map_cons, List.sum_cons] at *
    omega
theorem whole_len (k : Nat) (l : List Ex) : (partL k ((partL k l).map nfE)).length ≤ Ex.sum l :=
  Nat.le_trans (parts_len k _) (Nat.le_trans (sum_nf _) (sum_parts k l))
theorem leaf_nf {e : Ex} {k : Nat} {s : Ws} {ks : List Rx} (h : e.rx = .node k s ks) (h4 : e.isSeq = false) (h5 : e.isAlt = false) (h6 : e.isStar = false) : (nfE e).rx = .node k s [] := by
  cases e with
  | empty => rw [← show ks = [] from by simp only [Ex.rx] at h; injection h with _ _ h3; exact h3.symm, ← h]; rfl
  | eps => rw [← show ks = [] from by simp only [Ex.rx] at h; injection h with _ _ h3; exact h3.symm, ← h]; rfl
  | cls s => rw [← show ks = [] from by simp only [Ex.rx] at h; injection h with _ _ h3; exact h3.symm, ← h]; rfl
  | seq a b => cases h4
  | alt a b => cases h5
  | star a => cases h6
set_option maxHeartbeats 4000000 in
set_option maxRecDepth 100000 in
theorem normal_leaf {e : Ex} (h4 : e.isSeq = false) (h5 : e.isAlt = false) (h6 : e.isStar = false) {ok : Nat → Prop} (v : Value) (w : World) (h : ReAt ok w v e.rx) : Calls Tryz.prog 34 #[v] w (NewPost (nfE e).rx w) := by
  obtain ⟨ka, ⟨sa, sb, sc, sd⟩, ksa, hsa⟩ := rx_form e
  rw [hsa] at h
  obtain ⟨hk256, hsok, al, cap, rfl, hcap, _, hrow⟩ := h
  simp only
  rw [leaf_nf hsa h4 h5 h6]
  have k4a := kind_seq hsa
  have k5a := kind_alt hsa
  have k6a := kind_star hsa
  rw [h4] at k4a
  rw [h5] at k5a
  rw [h6] at k6a
  have HS := Lib.hid hsok
  clear hrow hcap hsa h4 h5 h6 hsok
  go_enter Tryz.func34, Tryz.ntmps34
  go_wp2
  exact ret_re (blk_at _ _ (by simp)) Tryz.results34 rfl rfl ⟨_, rfl, bareAt _ _ ka ⟨sa, sb, sc, sd⟩ hk256 HS.out, al2 w _ _⟩
set_option maxHeartbeats 8000000 in
set_option maxRecDepth 100000 in
theorem normal_step {N : Nat} (hN : N < 800000) (ih : NrmC N) : NrmC (N + 1) := by
  intro e hs hw ok v w h
  have h0 := h
  obtain ⟨ka, ⟨sa, sb, sc, sd⟩, ksa, hsa⟩ := rx_form e
  rw [hsa] at h
  obtain ⟨hk256, hsok, al, cap, rfl, hcap, _, hrow⟩ := h
  simp only at h0 ⊢
  have B := Lib.hid (Bn1.new w (.cells #[.int .u8 ka, .int .u64 sa, .int .u64 sb, .int .u64 sc, .int .u64 sd, .slice al ksa.length cap] 27))
  have IH := Lib.hid ih
  clear ih
  have k4a := kind_seq hsa
  have k5a := kind_alt hsa
  have k6a := kind_star hsa
  cases e with
  | seq a b =>
    simp only [Ex.rx] at hsa
    injection hsa with e1 e2 e3
    subst e1
    subst e3
    simp only [Ex.size] at hs
    have hsum : Ex.sum [a, b] < 900000 := by simp [Ex.sum]; omega
    obtain ⟨L, hL⟩ : ∃ L, L = (partL 4 [a, b]).map nfE := ⟨_, rfl⟩
    have hwl := Nat.lt_of_le_of_lt (whole_len 4 [a, b]) hsum
    have hpl := Nat.lt_of_le_of_lt (parts_len 4 [a, b]) hsum
    have KN := Lib.hid fun W (hb : Below w.heap.size w W) => normals_any (k := 4) IH.out (.inl rfl) ok [a, b] al cap W (fun x hx => by
      simp at hx
      rcases hx with rfl | rfl
      · exact ⟨by omega, hw.1⟩
      · exact ⟨by omega, hw.2⟩) (by simp) (by omega) (hrow.below hb)
    have KS := Lib.hid fun ok al cap W (h : RowAt ok W al (L.map Ex.rx)) => nmSeq_any ok L al cap W (by have := parts_len 4 [a, b]; rw [hL, List.length_map]; omega) (by rw [hL]; omega) h
    rw [← hL] at KN
    have hnode := seq_node a b
    rw [← hL] at hnode
    rw [hnode] at KS
    rw [show ([a, b] : List Ex).length = 2 from rfl, show (((4 : Nat) : Int)) = 4 from rfl] at KN
    rw [show ([a.rx, b.rx] : List Rx).length = 2 from rfl, show (((4 : Nat) : Int)) = 4 from rfl] at B ⊢
    generalize nfE (.seq a b) = res at *
    clear h0 hL hnode hwl hpl hsum k4a k5a k6a hw hrow hcap hsok e2 IH hk256
    go_enter Tryz.func34, Tryz.ntmps34
    go_wp2_with fail
    refine (KN.out _ B.out.2.2).mono ?_
    rintro x w1 ⟨al2, cap2, rfl, hcp, hr, hb1⟩
    have B1 := Lib.hid (B.out.go hb1)
    have KS1 := Lib.hid (KS.out _ al2 cap2 w1 hr)
    clear hcp hr hb1 B KN KS
    go_wp2_with fail
    refine KS1.out.mono ?_
    rintro x w2 ⟨v1, rfl, hv1, hb2⟩
    obtain ⟨p0, p1, p2, p3, p4, pl, pn, pc, rfl⟩ := cells_re hv1
    have B2 := Lib.hid (B1.out.go hb2)
    have HV := Lib.hid hv1
    have hlt := (Array.getElem?_eq_some_iff.1 B1.out.2.1).1
    clear hv1 hb2 KS1 B1
    obtain ⟨c0, c1, c2, c3, c4, c5, f0, f1, f2, f3, f4, f5⟩ := cellsR B2.out.2.1
    go_wp2
    exact ret_new B2.out.2.1 HV.out hlt B2.out.2.2 (by omega) Tryz.results34 rfl rfl
  | alt a b =>
    simp only [Ex.rx] at hsa
    injection hsa with e1 e2 e3
    subst e1
    subst e3
    simp only [Ex.size] at hs
    have hsum : Ex.sum [a, b] < 900000 := by simp [Ex.sum]; omega
    obtain ⟨L, hL⟩ : ∃ L, L = (partL 5 [a, b]).map nfE := ⟨_, rfl⟩
    have hwl := Nat.lt_of_le_of_lt (whole_len 5 [a, b]) hsum
    have hpl := Nat.lt_of_le_of_lt (parts_len 5 [a, b]) hsum
    have KN := Lib.hid fun W (hb : Below w.heap.size w W) => normals_any (k := 5) IH.out (.inr rfl) ok [a, b] al cap W (fun x hx => by
      simp at hx
      rcases hx with rfl | rfl
      · exact ⟨by omega, hw.1⟩
      · exact ⟨by omega, hw.2⟩) (by simp) (by omega) (hrow.below hb)
    have KS := Lib.hid fun ok al cap W (h : RowAt ok W al (L.map Ex.rx)) => nmAlt_any ok L al cap W (by have := parts_len 5 [a, b]; rw [hL, List.length_map]; omega) (by rw [hL]; omega) h
    rw [← hL] at KN
    have hnode := alt_node hw
    rw [← hL] at hnode
    rw [hnode] at KS
    rw [show ([a, b] : List Ex).length = 2 from rfl, show (((5 : Nat) : Int)) = 5 from rfl] at KN
    rw [show ([a.rx, b.rx] : List Rx).length = 2 from rfl, show (((5 : Nat) : Int)) = 5 from rfl] at B ⊢
    generalize nfE (.alt a b) = res at *
    clear h0 hL hnode hwl hpl hsum k4a k5a k6a hw hrow hcap hsok e2 IH hk256
    go_enter Tryz.func34, Tryz.ntmps34
    go_wp2_with fail
    refine (KN.out _ B.out.2.2).mono ?_
    rintro x w1 ⟨al2, cap2, rfl, hcp, hr, hb1⟩
    have B1 := Lib.hid (B.out.go hb1)
    have KS1 := Lib.hid (KS.out _ al2 cap2 w1 hr)
    clear hcp hr hb1 B KN KS
    go_wp2_with fail
    refine KS1.out.mono ?_
    rintro x w2 ⟨v1, rfl, hv1, hb2⟩
    obtain ⟨p0, p1, p2, p3, p4, pl, pn, pc, rfl⟩ := cells_re hv1
    have B2 := Lib.hid (B1.out.go hb2)
    have HV := Lib.hid hv1
    have hlt := (Array.getElem?_eq_some_iff.1 B1.out.2.1).1
    clear hv1 hb2 KS1 B1
    obtain ⟨c0, c1, c2, c3, c4, c5, f0, f1, f2, f3, f4, f5⟩ := cellsR B2.out.2.1
    go_wp2
    exact ret_new B2.out.2.1 HV.out hlt B2.out.2.2 (by omega) Tryz.results34 rfl rfl
  | star a =>
    simp only [Ex.rx] at hsa
    injection hsa with e1 e2 e3
    subst e1
    subst e3
    simp only [Ex.size] at hs
    obtain ⟨bk, off, rfl, hlt0, hn0⟩ := hrow.kid (i := 0) (by simp)
    simp only [List.getElem_cons_zero, Nat.zero_mul, Nat.add_zero] at hn0
    obtain ⟨kc, ⟨ca, cb, cc, cd⟩, ksc, hsc⟩ := rx_form a
    rw [hsc] at hn0
    obtain ⟨al0, cap0, i6, hrc⟩ := hn0.read
    simp only at i6 hrc
    rw [← hsc] at hrc
    have I6 := Lib.hid i6
    have KN := Lib.hid fun W (hb : Below w.heap.size w W) => IH.out a (by omega) hw ok _ W (hrc.below hb)
    have KS := Lib.hid fun ok v W (h : ReAt ok W v (nfE a).rx) => nstar_any (nfE a) ok v W h
    rw [show nfE (.star a) = starE (nfE a) from rfl]
    generalize starE (nfE a) = res at *
    generalize nfE a = na at *
    rw [show ([a.rx] : List Rx).length = 1 from rfl, show (((6 : Nat) : Int)) = 6 from rfl] at B ⊢
    have hcap1 : 1 ≤ cap := by simpa using hcap
    obtain ⟨c0, c1, c2, c3, c4, c5⟩ := six_keep hlt0 I6.out B.out.2.2
    clear h0 k4a k5a k6a hw hrow hcap hsok e2 IH hk256 hrc hsc hn0 i6
    go_enter Tryz.func34, Tryz.ntmps34
    go_wp2_with fail
    refine (KN.out _ B.out.2.2).mono ?_
    rintro x w1 ⟨v1, rfl, hv1, hb1⟩
    have B1 := Lib.hid (B.out.go hb1)
    have KS1 := Lib.hid (KS.out _ v1 w1 hv1)
    have hs1 := hb1.size
    clear hv1 hb1 KN KS c0 c1 c2 c3 c4 c5
    go_wp2_with fail
    refine KS1.out.mono ?_
    rintro x w2 ⟨v2, rfl, hv2, hb2⟩
    obtain ⟨p0, p1, p2, p3, p4, pl, pn, pc, rfl⟩ := cells_re hv2
    have B2 := Lib.hid (B1.out.go hb2)
    have HV := Lib.hid (hv2.imp (ok' := New (w.heap.size + 2)) fun b _ h => by
      unfold New at *
      rcases h with h | h
      · simpa using h
      · simp at hs1; omega)
    clear hv2 hb2 KS1 B1 B hs1
    obtain ⟨c0, c1, c2, c3, c4, c5, f0, f1, f2, f3, f4, f5⟩ := cellsR B2.out.2.1
    go_wp2
    exact ret_new B2.out.2.1 HV.out (by omega) B2.out.2.2 (by omega) Tryz.results34 rfl rfl
  | empty => exact normal_leaf rfl rfl rfl _ w h0
  | eps => exact normal_leaf rfl rfl rfl _ w h0
  | cls s => exact normal_leaf rfl rfl rfl _ w h0
theorem normal_all : ∀ N, N ≤ 800000 → NrmC N
  | 0, _ => fun e h => absurd h (by have := e.size_pos; omega)
  | N + 1, h => normal_step (by omega) (normal_all N (by omega))
theorem normal_any {e : Ex} (hs : e.size ≤ 800000) (hw : e.Wf) {ok : Nat → Prop} (v : Value) (w : World) (h : ReAt ok w v e.rx) : Calls Tryz.prog 34 #[v] w (NewPost (nfE e).rx w) :=
  normal_all 800000 (Nat.le_refl _) e hs hw ok v w h
end Go.Proofs.YtfmdcnfniimkoaaGreat
/- norm.Norm, Is. Made by wip/r8-r.py. -/
namespace Go.Proofs.YtfmdcnfniimkoaaGreat
open Go.RowKit
noncomputable def isX (r : Rx) : Bool := mayR r && sameR r (normX r)
theorem normX_no {r : Rx} (h : mayR r = false) : normX r = .node 0 Ws.nil [] := by unfold normX; rw [exX_no h]; rfl
theorem normX_of {e : Ex} (we : e.Wf) (hs : e.size ≤ 2000) : normX e.rx = (nfE e).rx := by unfold normX; rw [exX_of we hs]; rfl
set_option maxHeartbeats 2000000 in
set_option maxRecDepth 100000 in
theorem normL_any {ok : Nat → Prop} (r : Rx) (v : Value) (w : World) (h : ReAt ok w v r) :
    Calls Tryz.prog 12 #[v] w (NewPost (normX r) w) := by
  obtain ⟨x0, x1, x2, x3, x4, xl, xn, xc, rfl⟩ := cells_re h
  have B := Lib.hid (Bn1.new w (.cells #[.int .u8 x0, .int .u64 x1, .int .u64 x2, .int .u64 x3, .int .u64 x4, .slice xl xn xc] 27))
  have HB2 := Lib.hid (al2 w (.cells #[.int .u8 x0, .int .u64 x1, .int .u64 x2, .int .u64 x3, .int .u64 x4, .slice xl xn xc] 27) zR)
  have hr := row_new (h.below HB2.out)
  have hsz : ((w.alloc (.cells #[.int .u8 x0, .int .u64 x1, .int .u64 x2, .int .u64 x3, .int .u64 x4, .slice xl xn xc] 27)).alloc zR).heap.size = w.heap.size + 2 := by simp
  rw [hsz] at hr
  have HR := Lib.hid hr
  have KM := Lib.hid fun (al : Option Addr) (W : World) (h : RowAt (fun _ => True) W al [r]) => mayX [r] al 1 W (by simp) h
  rw [show [r].length = 1 from rfl, show [r].all mayR = mayR r from by simp] at KM
  have B3 := Lib.hid (B.out.go ((Below.refl _ _).alloc (Nat.le_refl _) (.cells #[.int .u8 x0, .int .u64 x1, .int .u64 x2, .int .u64 x3, .int .u64 x4, .slice xl xn xc] 27)))
  cases hm : mayR r with
  | false =>
    rw [normX_no hm]
    rw [hm] at KM
    clear hm h hr hsz B HB2
    go_enter Tryz.func12, Tryz.ntmps12
    go_wp2_with fail
    refine (KM.out _ _ HR.out).mono ?_
    rintro e w1 ⟨rfl, hb1⟩
    have B1 := Lib.hid (B3.out.go hb1)
    clear hb1 B3 KM HR
    obtain ⟨c0, c1, c2, c3, c4, c5, f0, f1, f2, f3, f4, f5⟩ := cellsR B1.out.2.1
    go_wp2
    exact ret_re (putR B1.out.2.1 _ _ _ _ _ _) Tryz.results12 rfl rfl ⟨_, rfl, bareAt _ _ 0 Ws.nil (by decide) Ws.nil_ok, putB B1.out.2.2 (by omega) _ _ _ _ _ _⟩
  | true =>
    obtain ⟨e0, he0, we, hs⟩ := may_ex h hm
    rw [show normX r = (nfE e0).rx from by rw [← he0]; exact normX_of we hs]
    rw [hm] at KM
    have KN := Lib.hid fun W (hb : Below w.heap.size w W) => normal_any (e := e0) (by omega) we (.agg #[.int .u8 x0, .int .u64 x1, .int .u64 x2, .int .u64 x3, .int .u64 x4, .slice xl xn xc]) W (by rw [he0]; exact h.below hb)
    clear hm h he0 hr hsz B HB2
    go_enter Tryz.func12, Tryz.ntmps12
    go_wp2_with fail
    refine (KM.out _ _ HR.out).mono ?_
    rintro e w1 ⟨rfl, hb1⟩
    have B1 := Lib.hid (B3.out.go hb1)
    clear hb1 B3 KM HR
    obtain ⟨c0, c1, c2, c3, c4, c5, -⟩ := cellsR B1.out.1
    go_wp2_with fail
    refine (KN.out _ B1.out.2.2).mono ?_
    rintro e w2 ⟨v2, rfl, hv2, hb2⟩
    obtain ⟨q0, q1, q2, q3, q4, ql, qn, qc, rfl⟩ := cells_re hv2
    have B2 := Lib.hid (B1.out.go hb2)
    have HV := Lib.hid hv2
    have hlt := (Array.getElem?_eq_some_iff.1 B1.out.2.1).1
    clear hv2 hb2 B1 c0 c1 c2 c3 c4 c5
    obtain ⟨c0, c1, c2, c3, c4, c5, f0, f1, f2, f3, f4, f5⟩ := cellsR B2.out.2.1
    go_wp2
    exact ret_new B2.out.2.1 HV.out hlt B2.out.2.2 (by omega) Tryz.results12 rfl rfl
set_option maxHeartbeats 4000000 in
set_option maxRecDepth 100000 in
theorem isCl_any {ok : Nat → Prop} (r : Rx) (v : Value) (w : World) (h : ReAt ok w v r) :
    Calls Tryz.prog 36 #[v] w fun e w' => e = .returned (.bool (!isX r)) ∧ Below w.heap.size w w' := by
  obtain ⟨x0, x1, x2, x3, x4, xl, xn, xc, rfl⟩ := cells_re h
  have KM := Lib.hid fun (al : Option Addr) (W : World) (h : RowAt (fun _ => True) W al [r]) => mayX [r] al 1 W (by simp) h
  rw [show [r].length = 1 from rfl, show [r].all mayR = mayR r from by simp] at KM
  have BX := Lib.hid (show (w.alloc (.cells #[.int .u8 x0, .int .u64 x1, .int .u64 x2, .int .u64 x3, .int .u64 x4, .slice xl xn xc] 27)).heap[w.heap.size]? = some (.cells #[.int .u8 x0, .int .u64 x1, .int .u64 x2, .int .u64 x3, .int .u64 x4, .slice xl xn xc] 27) ∧ Below w.heap.size w (w.alloc (.cells #[.int .u8 x0, .int .u64 x1, .int .u64 x2, .int .u64 x3, .int .u64 x4, .slice xl xn xc] 27)) from ⟨blk_new w _, (Below.refl _ w).alloc (Nat.le_refl _) _⟩)
  have HRE := Lib.hid h
  have pre : ∀ W, (W.heap[w.heap.size]? = some (.cells #[.int .u8 x0, .int .u64 x1, .int .u64 x2, .int .u64 x3, .int .u64 x4, .slice xl xn xc] 27) ∧ Below w.heap.size w W) → True := fun _ _ => trivial
  clear pre
  cases hm : mayR r with
  | false =>
    have hq : (!isX r) = true := by unfold isX; rw [hm]; rfl
    rw [hq]
    rw [hm] at KM
    clear hm hq h
    go_enter Tryz.func36, Tryz.ntmps36
    go_wp2_with fail
    obtain ⟨W, hW⟩ : ∃ x, x = w.alloc (.cells #[.int .u8 x0, .int .u64 x1, .int .u64 x2, .int .u64 x3, .int .u64 x4, .slice xl xn xc] 27) := ⟨_, rfl⟩
    rw [← hW] at BX ⊢
    clear hW
    have WB := Lib.hid fun x (hx : Below W.heap.size W x) => BX.out.2.trans (hx.mono BX.out.2.size)
    have CX := Lib.hid fun x (hx : Below W.heap.size W x) => cellsR ((hx.block _ (Array.getElem?_eq_some_iff.1 BX.out.1).1).trans BX.out.1)
    have HRW := Lib.hid fun x (hx : Below W.heap.size W x) => HRE.out.below (WB.out x hx)
    refine wp_region_order (fun i => ([SP.eq (.agg #[.int .u8 x0, .int .u64 x1, .int .u64 x2, .int .u64 x3, .int .u64 x4, .slice xl xn xc]), SP.row r, SP.eq (.bool false), SP.eq (.bool true), SP.eq (.bool true), SP.free, SP.free, SP.free, SP.free, SP.free, SP.eq (.bool true), SP.eq (.bool true)] : List SP).getD i SP.free) (by kernel_rfl) (by kernel_rfl) ⟨?_, ?_, ?_, ?_, ?_, ?_, ?_, ?_, ?_, ?_, ?_, ?_, trivial⟩ ?_
    · intro a x K out get hb hK
      rw [if_pos (wanted_none rfl)]
      have o1 : a.tmps[1]? = some (.pointer (some ⟨w.heap.size, 0, none⟩)) := out 1 (by kernel_rfl)
      obtain ⟨c0, c1, c2, c3, c4, c5, -⟩ := CX.out x hb
      clear out get
      go_simp
      exact hK _ _ rfl (Below.refl _ _)
    · intro a x K out get hb hK
      rw [if_pos (wanted_none rfl)]
      obtain ⟨y3, hy3, rfl⟩ := get 0 _ _ rfl rfl (by kernel_rfl)
      clear out get
      go_simp
      exact hK _ _ ⟨_, rfl, row_new (HRW.out x hb)⟩ (bel_al _ _)
    · intro a x K out get hb hK
      rw [if_pos (wanted_none rfl)]
      obtain ⟨y4, hy4, ⟨g4, rfl, hrow4⟩⟩ := get 1 _ _ rfl rfl (by kernel_rfl)
      clear out get
      go_simp
      refine (KM.out _ _ hrow4).mono ?_
      rintro e w2 ⟨rfl, hb2⟩
      exact hK _ _ rfl hb2
    · intro a x K out get hb hK
      rw [if_pos (wanted_none rfl)]
      obtain ⟨y5, hy5, rfl⟩ := get 2 _ _ rfl rfl (by kernel_rfl)
      clear out get
      go_simp
      exact hK _ _ rfl (Below.refl _ _)
    · intro a x K out get hb hK
      rw [if_pos (wanted_none rfl)]
      obtain ⟨y6, hy6, rfl⟩ := get 3 _ _ rfl rfl (by kernel_rfl)
      clear out get
      go_simp
      exact hK _ _ rfl (Below.refl _ _)
    · intro a x K out get hb hK
      obtain ⟨yg, hyg, rfl⟩ := get 4 _ _ rfl rfl (by kernel_rfl)
      rw [if_neg (by rw [wanted_bool rfl rfl rfl hyg]; decide)]
      exact hK _ _ trivial (Below.refl _ _)
    · intro a x K out get hb hK
      obtain ⟨yg, hyg, rfl⟩ := get 4 _ _ rfl rfl (by kernel_rfl)
      rw [if_neg (by rw [wanted_bool rfl rfl rfl hyg]; decide)]
      exact hK _ _ trivial (Below.refl _ _)
    · intro a x K out get hb hK
      obtain ⟨yg, hyg, rfl⟩ := get 4 _ _ rfl rfl (by kernel_rfl)
      rw [if_neg (by rw [wanted_bool rfl rfl rfl hyg]; decide)]
      exact hK _ _ trivial (Below.refl _ _)
    · intro a x K out get hb hK
      obtain ⟨yg, hyg, rfl⟩ := get 4 _ _ rfl rfl (by kernel_rfl)
      rw [if_neg (by rw [wanted_bool rfl rfl rfl hyg]; decide)]
      exact hK _ _ trivial (Below.refl _ _)
    · intro a x K out get hb hK
      obtain ⟨yg, hyg, rfl⟩ := get 4 _ _ rfl rfl (by kernel_rfl)
      rw [if_neg (by rw [wanted_bool rfl rfl rfl hyg]; decide)]
      exact hK _ _ trivial (Below.refl _ _)
    · intro a x K out get hb hK
      rw [if_pos (wanted_none rfl)]
      obtain ⟨y7, hy7, rfl⟩ := get 4 _ _ rfl rfl (by kernel_rfl)
      obtain ⟨y12, hy12, -⟩ := get 9 _ _ rfl rfl (by kernel_rfl)
      clear out get
      go_simp
      exact hK _ _ rfl (Below.refl _ _)
    · intro a x K out get hb hK
      rw [if_pos (wanted_none rfl)]
      obtain ⟨y13, hy13, rfl⟩ := get 10 _ _ rfl rfl (by kernel_rfl)
      clear out get
      go_simp
      exact hK _ _ rfl (Below.refl _ _)
    refine ao_fin (isD := fun s => (decide (3 ≤ s) && decide (s ≤ 13)) || decide (s = 2)) (by kernel_rfl) ?_
    intro f x hv hb
    have h2 : f 2 = _ := hv 11 _ _ rfl rfl
    have HB := Lib.hid (WB.out x hb)
    clear hv hb
    simp only [frm]
    simp
    rw [h2]
    generalize f 3 = u3 at *
    generalize f 4 = u4 at *
    generalize f 5 = u5 at *
    generalize f 6 = u6 at *
    generalize f 7 = u7 at *
    generalize f 8 = u8 at *
    generalize f 9 = u9 at *
    generalize f 10 = u10 at *
    generalize f 11 = u11 at *
    generalize f 12 = u12 at *
    generalize f 13 = u13 at *
    clear h2 f
    go_wp2
    go_ret
    exact ⟨rfl, HB.out⟩
  | true =>
    obtain ⟨e0, he0, we, hs⟩ := may_ex h hm
    have hq : (!isX r) = !sameR r (nfE e0).rx := by unfold isX; rw [hm, ← he0, normX_of we hs, Bool.true_and]
    rw [hq]
    rw [hm] at KM
    have KN0 := Lib.hid fun W (hb : Below w.heap.size w W) => normal_any (e := e0) (by omega) we (.agg #[.int .u8 x0, .int .u64 x1, .int .u64 x2, .int .u64 x3, .int .u64 x4, .slice xl xn xc]) W (by rw [he0]; exact HRE.out.below hb)
    have KS0 := Lib.hid fun W (hb : Below w.heap.size w W) v2 (hv : ReAt (fun _ => True) W v2 (nfE e0).rx) => sameX r (nfE e0).rx (.agg #[.int .u8 x0, .int .u64 x1, .int .u64 x2, .int .u64 x3, .int .u64 x4, .slice xl xn xc]) v2 W (HRE.out.below hb) hv
    generalize sameR r (nfE e0).rx = q at *
    clear hm hq h he0 hs we
    go_enter Tryz.func36, Tryz.ntmps36
    go_wp2_with fail
    obtain ⟨W, hW⟩ : ∃ x, x = w.alloc (.cells #[.int .u8 x0, .int .u64 x1, .int .u64 x2, .int .u64 x3, .int .u64 x4, .slice xl xn xc] 27) := ⟨_, rfl⟩
    rw [← hW] at BX ⊢
    clear hW
    have WB := Lib.hid fun x (hx : Below W.heap.size W x) => BX.out.2.trans (hx.mono BX.out.2.size)
    have CX := Lib.hid fun x (hx : Below W.heap.size W x) => cellsR ((hx.block _ (Array.getElem?_eq_some_iff.1 BX.out.1).1).trans BX.out.1)
    have HRW := Lib.hid fun x (hx : Below W.heap.size W x) => HRE.out.below (WB.out x hx)
    have KN := Lib.hid fun x (hx : Below W.heap.size W x) => KN0.out x (WB.out x hx)
    have KS := Lib.hid fun x (hx : Below W.heap.size W x) => KS0.out x (WB.out x hx)
    refine wp_region_order (fun i => ([SP.eq (.agg #[.int .u8 x0, .int .u64 x1, .int .u64 x2, .int .u64 x3, .int .u64 x4, .slice xl xn xc]), SP.row r, SP.eq (.bool true), SP.eq (.bool false), SP.eq (.bool false), SP.eq (.agg #[.int .u8 x0, .int .u64 x1, .int .u64 x2, .int .u64 x3, .int .u64 x4, .slice xl xn xc]), SP.eq (.agg #[.int .u8 x0, .int .u64 x1, .int .u64 x2, .int .u64 x3, .int .u64 x4, .slice xl xn xc]), SP.ex (fun _ => True) (nfE e0), SP.eq (.bool q), SP.eq (.bool (!q)), SP.eq (.bool (!q)), SP.eq (.bool (!q))] : List SP).getD i SP.free) (by kernel_rfl) (by kernel_rfl) ⟨?_, ?_, ?_, ?_, ?_, ?_, ?_, ?_, ?_, ?_, ?_, ?_, trivial⟩ ?_
    · intro a x K out get hb hK
      rw [if_pos (wanted_none rfl)]
      have o1 : a.tmps[1]? = some (.pointer (some ⟨w.heap.size, 0, none⟩)) := out 1 (by kernel_rfl)
      obtain ⟨c0, c1, c2, c3, c4, c5, -⟩ := CX.out x hb
      clear out get
      go_simp
      exact hK _ _ rfl (Below.refl _ _)
    · intro a x K out get hb hK
      rw [if_pos (wanted_none rfl)]
      obtain ⟨y3, hy3, rfl⟩ := get 0 _ _ rfl rfl (by kernel_rfl)
      clear out get
      go_simp
      exact hK _ _ ⟨_, rfl, row_new (HRW.out x hb)⟩ (bel_al _ _)
    · intro a x K out get hb hK
      rw [if_pos (wanted_none rfl)]
      obtain ⟨y4, hy4, ⟨g4, rfl, hrow4⟩⟩ := get 1 _ _ rfl rfl (by kernel_rfl)
      clear out get
      go_simp
      refine (KM.out _ _ hrow4).mono ?_
      rintro e w2 ⟨rfl, hb2⟩
      exact hK _ _ rfl hb2
    · intro a x K out get hb hK
      rw [if_pos (wanted_none rfl)]
      obtain ⟨y5, hy5, rfl⟩ := get 2 _ _ rfl rfl (by kernel_rfl)
      clear out get
      go_simp
      exact hK _ _ rfl (Below.refl _ _)
    · intro a x K out get hb hK
      rw [if_pos (wanted_none rfl)]
      obtain ⟨y6, hy6, rfl⟩ := get 3 _ _ rfl rfl (by kernel_rfl)
      clear out get
      go_simp
      exact hK _ _ rfl (Below.refl _ _)
    · intro a x K out get hb hK
      obtain ⟨yg, hyg, rfl⟩ := get 4 _ _ rfl rfl (by kernel_rfl)
      rw [if_pos (by rw [wanted_bool rfl rfl rfl hyg]; rfl)]
      clear hyg
      have o1 : a.tmps[1]? = some (.pointer (some ⟨w.heap.size, 0, none⟩)) := out 1 (by kernel_rfl)
      obtain ⟨c0, c1, c2, c3, c4, c5, -⟩ := CX.out x hb
      clear out get
      go_simp
      exact hK _ _ rfl (Below.refl _ _)
    · intro a x K out get hb hK
      obtain ⟨yg, hyg, rfl⟩ := get 4 _ _ rfl rfl (by kernel_rfl)
      rw [if_pos (by rw [wanted_bool rfl rfl rfl hyg]; rfl)]
      clear hyg
      have o1 : a.tmps[1]? = some (.pointer (some ⟨w.heap.size, 0, none⟩)) := out 1 (by kernel_rfl)
      obtain ⟨c0, c1, c2, c3, c4, c5, -⟩ := CX.out x hb
      clear out get
      go_simp
      exact hK _ _ rfl (Below.refl _ _)
    · intro a x K out get hb hK
      obtain ⟨yg, hyg, rfl⟩ := get 4 _ _ rfl rfl (by kernel_rfl)
      rw [if_pos (by rw [wanted_bool rfl rfl rfl hyg]; rfl)]
      clear hyg
      obtain ⟨y9, hy9, rfl⟩ := get 6 _ _ rfl rfl (by kernel_rfl)
      clear out get
      go_simp
      refine (KN.out x hb).mono ?_
      rintro e w2 ⟨v2, rfl, hv2, hb2⟩
      exact hK _ _ (ExV.of hv2 fun _ _ _ => trivial) hb2
    · intro a x K out get hb hK
      obtain ⟨yg, hyg, rfl⟩ := get 4 _ _ rfl rfl (by kernel_rfl)
      rw [if_pos (by rw [wanted_bool rfl rfl rfl hyg]; rfl)]
      clear hyg
      obtain ⟨y8, hy8, rfl⟩ := get 5 _ _ rfl rfl (by kernel_rfl)
      obtain ⟨y10, hy10, ⟨q0, q1, q2, q3, q4, ql, qn, qc, rfl, hr10⟩⟩ := get 7 _ _ rfl rfl (by kernel_rfl)
      clear out get
      go_simp
      refine (KS.out x hb _ hr10).mono ?_
      rintro e w2 ⟨rfl, hb2⟩
      exact hK _ _ rfl hb2
    · intro a x K out get hb hK
      obtain ⟨yg, hyg, rfl⟩ := get 4 _ _ rfl rfl (by kernel_rfl)
      rw [if_pos (by rw [wanted_bool rfl rfl rfl hyg]; rfl)]
      clear hyg
      obtain ⟨y11, hy11, rfl⟩ := get 8 _ _ rfl rfl (by kernel_rfl)
      clear out get
      go_simp
      exact hK _ _ rfl (Below.refl _ _)
    · intro a x K out get hb hK
      rw [if_pos (wanted_none rfl)]
      obtain ⟨y7, hy7, rfl⟩ := get 4 _ _ rfl rfl (by kernel_rfl)
      obtain ⟨y12, hy12, rfl⟩ := get 9 _ _ rfl rfl (by kernel_rfl)
      clear out get
      go_simp
      exact hK _ _ rfl (Below.refl _ _)
    · intro a x K out get hb hK
      rw [if_pos (wanted_none rfl)]
      obtain ⟨y13, hy13, rfl⟩ := get 10 _ _ rfl rfl (by kernel_rfl)
      clear out get
      go_simp
      exact hK _ _ rfl (Below.refl _ _)
    refine ao_fin (isD := fun s => (decide (3 ≤ s) && decide (s ≤ 13)) || decide (s = 2)) (by kernel_rfl) ?_
    intro f x hv hb
    have h2 : f 2 = _ := hv 11 _ _ rfl rfl
    have HB := Lib.hid (WB.out x hb)
    clear hv hb
    simp only [frm]
    simp
    rw [h2]
    generalize f 3 = u3 at *
    generalize f 4 = u4 at *
    generalize f 5 = u5 at *
    generalize f 6 = u6 at *
    generalize f 7 = u7 at *
    generalize f 8 = u8 at *
    generalize f 9 = u9 at *
    generalize f 10 = u10 at *
    generalize f 11 = u11 at *
    generalize f 12 = u12 at *
    generalize f 13 = u13 at *
    clear h2 f
    go_wp2
    go_ret
    exact ⟨rfl, HB.out⟩
def idxInvI (l : List Rx) (w : World) (y : Value) (wr : World) : Prop := ∃ i : Nat, i ≤ l.length ∧ y = .int .i64 i ∧ (l.take i).all isX = true ∧ Below w.heap.size w wr
def IdxPostI (q : Bool) (w : World) (e : Ending) (w' : World) : Prop := ∃ x : Int, decide (0 ≤ x) = !q ∧ e = .returned (.int .i64 x) ∧ Below w.heap.size w w'
set_option maxHeartbeats 4000000 in
theorem indexI_any {ok : Nat → Prop} (l : List Rx) (al : Option Addr) (cap : Nat) (w : World) (hl : l.length < 2199023255552) (hR : RowAt ok w al l) :
    Calls Tryz.prog 60 #[.slice al l.length cap, .func (.func 36) #[] #[]] w (IdxPostI (l.all isX) w) := by
  have HR := Lib.hid hR
  clear hR
  go_enter Tryz.func60, Tryz.ntmps60
  go_wp2
  go_loopw [8] (fun y wr => idxInvI l w y wr) (fun y _ => l.length - (intOf y).toNat)
  case atStart => exact ⟨0, Nat.zero_le _, rfl, by simp, Below.refl _ _⟩
  case round =>
    obtain ⟨i, hi, rfl, hmay, hb⟩ := hrel
    have HY := Lib.hid hmay
    clear hmay
    by_cases hlt : i < l.length
    · obtain ⟨b, off, hab, hblt, hnode⟩ := HR.out.kid hlt
      subst hab
      have hkid := NodeAt.below hb _ hblt hnode
      have htk : (l.take (i + 1)).all isX = ((l.take i).all isX && isX l[i]) := by
        rw [List.take_succ_eq_append_getElem hlt, List.all_append]; simp
      have hno : isX l[i] = false → l.all isX = false := fun h => by
        rw [List.all_eq_false]; exact ⟨l[i], List.getElem_mem hlt, by rw [h]; simp⟩
      clear hnode
      generalize l[i] = kid at *
      obtain ⟨k', ⟨ta, tb, tc, td⟩, ks'⟩ := kid
      obtain ⟨al', cap', ⟨c0, c1, c2, c3, c4, c5⟩, hre⟩ := hkid.read
      simp only at c0 c1 c2 c3 c4 c5
      have K := Lib.hid (isCl_any _ _ wr hre)
      generalize isX (Rx.node k' ⟨ta, tb, tc, td⟩ ks') = q at *
      have T1 := Lib.hid htk
      have T2 := Lib.hid hno
      clear hkid hre htk hno
      have q1 : (i : Int) < (l.length : Int) := by omega
      go_wp2_with fail
      refine K.out.mono ?_
      rintro e w1 ⟨rfl, hb1⟩
      replace hb := hb.trans (hb1.mono hb.size)
      clear hb1 c0 c1 c2 c3 c4 c5
      cases q with
      | true =>
        go_wp2
        exact ⟨⟨i + 1, by omega, by go_num, by rw [T1.out, HY.out]; rfl, hb⟩, by simp [intOf]; omega⟩
      | false =>
        go_wp2
        go_ret
        exact ⟨i, by rw [T2.out trivial]; simp, rfl, hb⟩
    · have he : l.take i = l := List.take_of_length_le (by omega)
      rw [he] at HY
      go_wp2
      go_ret
      exact ⟨-1, by rw [HY.out]; rfl, rfl, hb⟩
theorem containsI_any {ok : Nat → Prop} (l : List Rx) (al : Option Addr) (cap : Nat) (w : World) (hl : l.length < 2199023255552) (hR : RowAt ok w al l) :
    Calls Tryz.prog 35 #[.slice al l.length cap, .func (.func 36) #[] #[]] w fun e w' => e = .returned (.bool (!l.all isX)) ∧ Below w.heap.size w w' := by
  have K := Lib.hid (indexI_any l al cap w hl hR)
  clear hR
  generalize l.all isX = q at *
  go_enter Tryz.func35, Tryz.ntmps35
  go_wp2_with fail
  refine K.out.mono ?_
  rintro e w1 ⟨x, hx, rfl, hb⟩
  have HX := Lib.hid hx
  clear hx
  go_wp2
  go_ret
  exact ⟨by rw [← HX.out]; rfl, hb⟩
theorem isL_any {ok : Nat → Prop} (l : List Rx) (al : Option Addr) (cap : Nat) (w : World) (hl : l.length < 2199023255552) (hR : RowAt ok w al l) :
    Calls Tryz.prog 13 #[.slice al l.length cap] w fun e w' => e = .returned (.bool (l.all isX)) ∧ Below w.heap.size w w' := by
  have K := Lib.hid (containsI_any l al cap w hl hR)
  clear hR
  skip
  generalize l.all isX = q at *
  go_enter Tryz.func13, Tryz.ntmps13
  go_wp2_with fail
  refine K.out.mono ?_
  rintro e w1 ⟨rfl, hb⟩
  go_wp2
  go_ret
  exact ⟨by simp, hb⟩
end Go.Proofs.YtfmdcnfniimkoaaGreat
/- Layer 8's example. -/
namespace Go.Proofs.YtfmdcnfniimkoaaGreat
open Go.RowKit
def exN : Ex := .alt (.seq .eps (.cls (rngW 97 97))) (.alt (.seq .empty (.cls (rngW 98 98))) (.cls (rngW 97 97)))
theorem px_n : PX .alt [40, 41, 97, 124, 91, 93, 98, 124, 97] (.ok exN []) :=
  PX.altMore (PX.rowMore (PX.eps [97, 124, 91, 93, 98, 124, 97]) rfl rfl (PX.rowOne (ex_atom 97 _ rfl (by decide) (by decide) (by decide)) rfl rfl))
    (PX.altMore (PX.rowMore (PX.cls (PCls.done Ws.nil [98, 124, 97])) rfl rfl (PX.rowOne (ex_atom 98 _ rfl (by decide) (by decide) (by decide)) rfl rfl))
      (PX.altOne (PX.rowOne (ex_atom 97 _ rfl (by decide) (by decide) (by decide)) rfl rfl) (notAt_nil _)))
theorem rd_n : rdOf ⟨#[40, 41, 97, 124, 91, 93, 98, 124, 97]⟩ = .ok exN := by
  rw [rdOf_px (s := ⟨#[40, 41, 97, 124, 91, 93, 98, 124, 97]⟩) px_n]
  unfold topR
  rw [if_neg (by decide)]
  simp only [if_true]
  rw [if_pos (by decide)]
theorem has_ne {s : Ws} {n : Nat} (h : s.has n = true) : s ≠ Ws.nil := fun e => by rw [e, Ws.has_nil] at h; cases h
theorem wf_n : exN.Wf := ⟨⟨trivial, ofN_ok _, has_ne (n := 97) (by decide +kernel)⟩, ⟨trivial, ofN_ok _, has_ne (n := 98) (by decide +kernel)⟩, ofN_ok _, has_ne (n := 97) (by decide +kernel)⟩
theorem nf_n : nfE exN = .cls (rngW 97 97) := by kernel_rfl
theorem word_a : foldR 4 2 (wordL ⟨#[97]⟩) = (Ex.cls (rngW 97 97)).rx := by kernel_rfl
theorem normX_n : normX exN.rx = (Ex.cls (rngW 97 97)).rx := by rw [normX_of wf_n (by decide), nf_n]
theorem isX_n : isX exN.rx = false := by
  unfold isX
  rw [normX_n, show sameR exN.rx (Ex.cls (rngW 97 97)).rx = false from by
    cases h : sameR exN.rx (Ex.cls (rngW 97 97)).rx with
    | false => rfl
    | true =>
      have := (sameR_iff _ _).1 h
      simp [exN, Ex.rx] at this]
  simp
def Awake8C : Prop := ∀ (w : World), Calls Tryz.prog 8 #[] w fun x w' => x = .returned (.bool true) ∧ Below w.heap.size w w'
set_option maxHeartbeats 4000000 in
set_option maxRecDepth 100000 in
theorem awake8_any (hRead : ReadC) : Awake8C := by
  intro w
  have K1 := Lib.hid (hRead ⟨#[40, 41, 97, 124, 91, 93, 98, 124, 97]⟩ w (by decide))
  rw [rd_n] at K1
  have KN := Lib.hid fun (ok : Nat → Prop) v W (h : ReAt ok W v exN.rx) => normL_any exN.rx v W h
  rw [normX_n] at KN
  have KW := Lib.hid fun W => word_any ⟨#[97]⟩ W (by decide)
  rw [word_a] at KW
  have KI := Lib.hid fun (ok : Nat → Prop) al W (h : RowAt ok W al [exN.rx]) => isL_any [exN.rx] al 1 W (by simp) h
  rw [show [exN.rx].all isX = false from by simp [isX_n], show [exN.rx].length = 1 from rfl] at KI
  have KS := Lib.hid fun (ok ok' : Nat → Prop) v u W (h : ReAt ok W v (Ex.cls (rngW 97 97)).rx) (h' : ReAt ok' W u (Ex.cls (rngW 97 97)).rx) => refSame (Ex.cls (rngW 97 97)).rx (Ex.cls (rngW 97 97)).rx v u W h h'
  rw [show sameR (Ex.cls (rngW 97 97)).rx (Ex.cls (rngW 97 97)).rx = true from (sameR_iff _ _).2 rfl] at KS
  generalize (Ex.cls (rngW 97 97)).rx = cx at *
  go_enter Tryz.func8, Tryz.ntmps8
  go_wp2_with fail
  refine K1.out.mono ?_
  rintro e w1 ⟨hb1, v, rfl, hv⟩
  obtain ⟨x0, x1, x2, x3, x4, xl, xn, xc, rfl⟩ := cells_re hv
  have hal := (Below.refl _ w1).alloc (Nat.le_refl _) (.cells #[.int .u8 x0, .int .u64 x1, .int .u64 x2, .int .u64 x3, .int .u64 x4, .slice xl xn xc] 27)
  have HX := Lib.hid (blk_new w1 (.cells #[.int .u8 x0, .int .u64 x1, .int .u64 x2, .int .u64 x3, .int .u64 x4, .slice xl xn xc] 27))
  have HV := Lib.hid (hv.below hal)
  have HB := Lib.hid (hb1.trans (hal.mono hb1.size))
  clear hal hb1 hv
  go_wp2_with fail
  refine (KN.out _ _ _ HV.out).mono ?_
  rintro e w2 ⟨v2, rfl, hv2, hb2⟩
  have HV2 := Lib.hid (HV.out.below hb2)
  have HB2 := Lib.hid (HB.out.trans (hb2.mono HB.out.size))
  have HX2 := Lib.hid ((hb2.block _ (by simp)).trans HX.out)
  have HN := Lib.hid hv2
  clear hb2 HV HB HX hv2
  go_wp2_with fail
  refine (KW.out _).mono ?_
  rintro e w3 ⟨v3, rfl, hv3, hb3⟩
  have HV3 := Lib.hid (HV2.out.below hb3)
  have HB3 := Lib.hid (HB2.out.trans (hb3.mono HB2.out.size))
  have HX3 := Lib.hid ((hb3.block _ (Array.getElem?_eq_some_iff.1 HX2.out).1).trans HX2.out)
  have HS := Lib.hid (KS.out _ _ v2 v3 w3 (HN.out.below hb3) hv3)
  clear hb3 HV2 HB2 HX2 HN hv3 KS
  go_wp2_with fail
  refine HS.out.mono ?_
  rintro e w4 ⟨rfl, hb4⟩
  have HV4 := Lib.hid (HV3.out.below hb4)
  have HB4 := Lib.hid (HB3.out.trans (hb4.mono HB3.out.size))
  have HX4 := Lib.hid ((hb4.block _ (Array.getElem?_eq_some_iff.1 HX3.out).1).trans HX3.out)
  clear hb4 HV3 HB3 HX3 HS
  obtain ⟨c0, c1, c2, c3, c4, c5, -⟩ := cellsR HX4.out
  go_wp2_with fail
  refine (KI.out _ _ _ (row_new HV4.out)).mono ?_
  rintro e w5 ⟨rfl, hb5⟩
  have hal := ((Below.refl _ w4).alloc (Nat.le_refl _) (.cells #[.int .u8 x0, .int .u64 x1, .int .u64 x2, .int .u64 x3, .int .u64 x4, .slice xl xn xc] 27)).trans (hb5.mono (by simp))
  go_wp2
  go_ret
  exact ⟨rfl, HB4.out.trans (hal.mono HB4.out.size)⟩
end Go.Proofs.YtfmdcnfniimkoaaGreat
/- What layer 8's walks share. -/
namespace Go.Proofs.YtfmdcnfniimkoaaGreat
open Go.RowKit
theorem mgreat_200 {r : Rx} (h : r.size ≤ 1000000000 → false = greatB r 200) (hs : r.size ≤ 1048576) : r.size ≤ 200 := by
  have := (h (by omega)).symm
  simp [greatB] at this
  omega
def RxV (r : Rx) (x : Value) (w : World) : Prop := ∃ (p0 p1 p2 p3 p4 : Int) (pl : Option Addr) (pn pc : Nat), x = .agg #[.int .u8 p0, .int .u64 p1, .int .u64 p2, .int .u64 p3, .int .u64 p4, .slice pl pn pc] ∧ ReAt (fun _ => True) w (.agg #[.int .u8 p0, .int .u64 p1, .int .u64 p2, .int .u64 p3, .int .u64 p4, .slice pl pn pc]) r
theorem RxV.of {ok : Nat → Prop} {w : World} {v : Value} {r : Rx} (h : ReAt ok w v r) : RxV r v w := by
  obtain ⟨p0, p1, p2, p3, p4, pl, pn, pc, rfl⟩ := cells_re h
  exact ⟨p0, p1, p2, p3, p4, pl, pn, pc, rfl, h.imp fun _ _ _ => trivial⟩
/-- An expression, whatever it is. -/
def SP.rx (r : Rx) : SP := ⟨RxV r, fun _ _ _ ⟨p0, p1, p2, p3, p4, pl, pn, pc, h1, h2⟩ hb => ⟨p0, p1, p2, p3, p4, pl, pn, pc, h1, h2.below hb⟩⟩
theorem same_comm (a b : Rx) : sameR a b = sameR b a := by
  cases h : sameR b a with
  | true => exact (sameR_iff _ _).2 ((sameR_iff _ _).1 h).symm
  | false =>
    cases h2 : sameR a b with
    | false => rfl
    | true => rw [(sameR_iff _ _).2 ((sameR_iff _ _).1 h2).symm] at h; exact h
theorem may_wf {e : Ex} (we : e.Wf) (hs : e.size ≤ 2000) : mayR e.rx = true := by
  unfold mayR mayN
  rw [good_ex e we, Ex.size_rx, decide_eq_true hs]; rfl
end Go.Proofs.YtfmdcnfniimkoaaGreat
/- norm.Seq, Alt, Star. Made by wip/r8-u.py. -/
namespace Go.Proofs.YtfmdcnfniimkoaaGreat
open Go.RowKit
noncomputable def exD (r : Rx) : Ex := (exX r).getD .empty
/-- What is made with care of some. -/
noncomputable def manyX (k : Nat) (l : List Rx) : Rx := if l.all mayR = true then (if k = 4 then seqF ((l.map exD).map nfE) else altE ((l.map exD).map nfE)).rx else .node 0 Ws.nil []
noncomputable def starX (r : Rx) : Rx := ((exX r).map fun e => (starE (nfE e)).rx).getD (.node 0 Ws.nil [])
theorem sum_rx (L : List Ex) : Rx.sizes (L.map Ex.rx) = Ex.sum L := by
  induction L with
  | nil => rfl
  | cons e L ih =>
    have h := Ex.size_rx e
    simp only [List.map_cons, Rx.sizes, Ex.sum, List.sum_cons] at ih ⊢
    omega
theorem exs_of : ∀ (l : List Rx), (∀ r ∈ l, ∃ e : Ex, e.rx = r ∧ e.Wf ∧ e.size ≤ 2000) → ∃ L : List Ex, L.map Ex.rx = l ∧ (∀ e ∈ L, e.Wf ∧ e.size ≤ 2000) ∧ l.map exD = L
  | [], _ => ⟨[], rfl, fun _ h => (by cases h), rfl⟩
  | r :: l, h => by
    obtain ⟨e, he, we, hs⟩ := h r (by simp)
    obtain ⟨L, h1, h2, h3⟩ := exs_of l fun r hr => h r (List.mem_cons_of_mem _ hr)
    refine ⟨e :: L, by rw [List.map_cons, he, h1], fun x hx => ?_, ?_⟩
    · rcases List.mem_cons.1 hx with rfl | hx
      · exact ⟨we, hs⟩
      · exact h2 x hx
    · rw [List.map_cons, h3]
      congr 1
      unfold exD
      rw [← he, exX_of we hs]
      rfl
theorem rows_ex {ok : Nat → Prop} {w : World} {al : Option Addr} {l : List Rx} (h : RowAt ok w al l) (hm : l.all mayR = true) : ∃ L : List Ex, L.map Ex.rx = l ∧ (∀ e ∈ L, e.Wf ∧ e.size ≤ 2000) ∧ l.map exD = L :=
  exs_of l fun r hr => by
    obtain ⟨i, hi, rfl⟩ := List.getElem_of_mem hr
    obtain ⟨b, off, _, _, hn⟩ := h.kid hi
    have hmr := List.all_eq_true.1 hm _ (List.getElem_mem hi)
    generalize l[i] = q at *
    obtain ⟨k, s, ks⟩ := q
    obtain ⟨al', cap', _, hre⟩ := hn.read
    exact may_ex hre hmr
set_option maxHeartbeats 4000000 in
set_option maxRecDepth 100000 in
theorem SeqX_any {ok : Nat → Prop} (l : List Rx) (al : Option Addr) (cap : Nat) (w : World) (hsz : Rx.sizes l ≤ 500000) (h : RowAt ok w al l) :
    Calls Tryz.prog 17 #[.slice al l.length cap] w (NewPost (manyX 4 l) w) := by
  have hll : l.length ≤ Rx.sizes l := length_le_sizes l
  have hb0 : Below w.heap.size w (w.alloc zR) := (Below.refl _ w).alloc (Nat.le_refl _) _
  have HZ0 := Lib.hid (blk_new w zR)
  have HB0 := Lib.hid hb0
  have KM := Lib.hid (mayX l al cap (w.alloc zR) (by omega) (h.below hb0))
  cases hm : l.all mayR with
  | false =>
    rw [show manyX 4 l = .node 0 Ws.nil [] from by unfold manyX; rw [if_neg (by rw [hm]; decide)]]
    rw [hm] at KM
    clear hm h hb0 hll hsz
    go_enter Tryz.func17, Tryz.ntmps17
    go_wp2_with fail
    refine KM.out.mono ?_
    rintro e w1 ⟨rfl, hb1⟩
    have hz := (hb1.block w.heap.size (by simp)).trans HZ0.out
    have HZ := Lib.hid hz
    have HB := Lib.hid (HB0.out.trans (hb1.mono HB0.out.size))
    obtain ⟨c0, c1, c2, c3, c4, c5, f0, f1, f2, f3, f4, f5⟩ := cellsR hz
    clear hb1 hz
    go_wp2
    exact ret_re (putR HZ.out _ _ _ _ _ _) Tryz.results17 rfl rfl ⟨_, rfl, bareAt _ _ 0 Ws.nil (by decide) Ws.nil_ok, putB HB.out (Nat.le_refl _) _ _ _ _ _ _⟩
  | true =>
    obtain ⟨L, hL, hLw, hLd⟩ := rows_ex h hm
    rw [show manyX 4 l = (seqF (L.map nfE)).rx from by unfold manyX; rw [if_pos hm, hLd]; rfl]
    rw [hm] at KM
    have hsum : Ex.sum L = Rx.sizes l := by rw [← hL, sum_rx]
    have hll2 : L.length = l.length := by rw [← hL, List.length_map]
    have hpl := Nat.le_trans (parts_len 4 L) (Nat.le_of_eq hsum)
    have hwl := Nat.le_trans (whole_len 4 L) (Nat.le_of_eq hsum)
    obtain ⟨M, hM⟩ : ∃ M, M = (partL 4 L).map nfE := ⟨_, rfl⟩
    have KN := Lib.hid fun W (hb : Below w.heap.size w W) => normals_any (k := 4) (normal_all 800000 (Nat.le_refl _)) (.inl rfl) ok L al cap W (fun e he => ⟨Nat.le_trans (hLw e he).2 (by decide), (hLw e he).1⟩) (by omega) (by omega) (by rw [hL]; exact h.below hb)
    have KS := Lib.hid fun ok al cap W (h : RowAt ok W al (M.map Ex.rx)) => nmSeq_any ok M al cap W (by rw [hM, List.length_map]; omega) (by rw [hM]; omega) h
    rw [← hM, hll2, show (((4 : Nat) : Int)) = 4 from rfl] at KN
    have hres : seqP (partL 4 M) = seqF (L.map nfE) := by rw [hM]; exact seq_whole L
    rw [hres] at KS
    clear hm h hb0 hll hsz hL hLw hLd hsum hll2 hpl hwl hM hres
    go_enter Tryz.func17, Tryz.ntmps17
    go_wp2_with fail
    refine KM.out.mono ?_
    rintro e w1 ⟨rfl, hb1⟩
    have HZ1 := Lib.hid ((hb1.block w.heap.size (by simp)).trans HZ0.out)
    have HB1 := Lib.hid (HB0.out.trans (hb1.mono HB0.out.size))
    clear hb1 KM
    go_wp2_with fail
    refine (KN.out _ HB1.out).mono ?_
    rintro x w2 ⟨al2, cap2, rfl, hcp, hr, hb2⟩
    have HZ2 := Lib.hid ((hb2.block _ (Array.getElem?_eq_some_iff.1 HZ1.out).1).trans HZ1.out)
    have HB2 := Lib.hid (HB1.out.trans (hb2.mono HB1.out.size))
    have KS1 := Lib.hid (KS.out _ al2 cap2 w2 hr)
    clear hcp hr hb2 KN KS
    go_wp2_with fail
    refine KS1.out.mono ?_
    rintro x w3 ⟨v1, rfl, hv1, hb3⟩
    obtain ⟨p0, p1, p2, p3, p4, pl, pn, pc, rfl⟩ := cells_re hv1
    have hz3 := (hb3.block _ (Array.getElem?_eq_some_iff.1 HZ2.out).1).trans HZ2.out
    have HZ3 := Lib.hid hz3
    have HB3 := Lib.hid (HB2.out.trans (hb3.mono HB2.out.size))
    have HV := Lib.hid hv1
    have hlt := (Array.getElem?_eq_some_iff.1 HZ2.out).1
    obtain ⟨c0, c1, c2, c3, c4, c5, f0, f1, f2, f3, f4, f5⟩ := cellsR hz3
    clear hv1 hb3 KS1 hz3
    go_wp2
    exact ret_new HZ3.out HV.out hlt HB3.out (Nat.le_refl _) Tryz.results17 rfl rfl
set_option maxHeartbeats 4000000 in
set_option maxRecDepth 100000 in
theorem AltX_any {ok : Nat → Prop} (l : List Rx) (al : Option Addr) (cap : Nat) (w : World) (hsz : Rx.sizes l ≤ 500000) (h : RowAt ok w al l) :
    Calls Tryz.prog 19 #[.slice al l.length cap] w (NewPost (manyX 5 l) w) := by
  have hll : l.length ≤ Rx.sizes l := length_le_sizes l
  have hb0 : Below w.heap.size w (w.alloc zR) := (Below.refl _ w).alloc (Nat.le_refl _) _
  have HZ0 := Lib.hid (blk_new w zR)
  have HB0 := Lib.hid hb0
  have KM := Lib.hid (mayX l al cap (w.alloc zR) (by omega) (h.below hb0))
  cases hm : l.all mayR with
  | false =>
    rw [show manyX 5 l = .node 0 Ws.nil [] from by unfold manyX; rw [if_neg (by rw [hm]; decide)]]
    rw [hm] at KM
    clear hm h hb0 hll hsz
    go_enter Tryz.func19, Tryz.ntmps19
    go_wp2_with fail
    refine KM.out.mono ?_
    rintro e w1 ⟨rfl, hb1⟩
    have hz := (hb1.block w.heap.size (by simp)).trans HZ0.out
    have HZ := Lib.hid hz
    have HB := Lib.hid (HB0.out.trans (hb1.mono HB0.out.size))
    obtain ⟨c0, c1, c2, c3, c4, c5, f0, f1, f2, f3, f4, f5⟩ := cellsR hz
    clear hb1 hz
    go_wp2
    exact ret_re (putR HZ.out _ _ _ _ _ _) Tryz.results19 rfl rfl ⟨_, rfl, bareAt _ _ 0 Ws.nil (by decide) Ws.nil_ok, putB HB.out (Nat.le_refl _) _ _ _ _ _ _⟩
  | true =>
    obtain ⟨L, hL, hLw, hLd⟩ := rows_ex h hm
    rw [show manyX 5 l = (altE (L.map nfE)).rx from by unfold manyX; rw [if_pos hm, hLd]; rfl]
    rw [hm] at KM
    have hsum : Ex.sum L = Rx.sizes l := by rw [← hL, sum_rx]
    have hll2 : L.length = l.length := by rw [← hL, List.length_map]
    have hpl := Nat.le_trans (parts_len 5 L) (Nat.le_of_eq hsum)
    have hwl := Nat.le_trans (whole_len 5 L) (Nat.le_of_eq hsum)
    obtain ⟨M, hM⟩ : ∃ M, M = (partL 5 L).map nfE := ⟨_, rfl⟩
    have KN := Lib.hid fun W (hb : Below w.heap.size w W) => normals_any (k := 5) (normal_all 800000 (Nat.le_refl _)) (.inr rfl) ok L al cap W (fun e he => ⟨Nat.le_trans (hLw e he).2 (by decide), (hLw e he).1⟩) (by omega) (by omega) (by rw [hL]; exact h.below hb)
    have KS := Lib.hid fun ok al cap W (h : RowAt ok W al (M.map Ex.rx)) => nmAlt_any ok M al cap W (by rw [hM, List.length_map]; omega) (by rw [hM]; omega) h
    rw [← hM, hll2, show (((5 : Nat) : Int)) = 5 from rfl] at KN
    have hres : altE M = altE (L.map nfE) := by rw [hM]; exact alt_whole fun e he => (hLw e he).1
    rw [hres] at KS
    clear hm h hb0 hll hsz hL hLw hLd hsum hll2 hpl hwl hM hres
    go_enter Tryz.func19, Tryz.ntmps19
    go_wp2_with fail
    refine KM.out.mono ?_
    rintro e w1 ⟨rfl, hb1⟩
    have HZ1 := Lib.hid ((hb1.block w.heap.size (by simp)).trans HZ0.out)
    have HB1 := Lib.hid (HB0.out.trans (hb1.mono HB0.out.size))
    clear hb1 KM
    go_wp2_with fail
    refine (KN.out _ HB1.out).mono ?_
    rintro x w2 ⟨al2, cap2, rfl, hcp, hr, hb2⟩
    have HZ2 := Lib.hid ((hb2.block _ (Array.getElem?_eq_some_iff.1 HZ1.out).1).trans HZ1.out)
    have HB2 := Lib.hid (HB1.out.trans (hb2.mono HB1.out.size))
    have KS1 := Lib.hid (KS.out _ al2 cap2 w2 hr)
    clear hcp hr hb2 KN KS
    go_wp2_with fail
    refine KS1.out.mono ?_
    rintro x w3 ⟨v1, rfl, hv1, hb3⟩
    obtain ⟨p0, p1, p2, p3, p4, pl, pn, pc, rfl⟩ := cells_re hv1
    have hz3 := (hb3.block _ (Array.getElem?_eq_some_iff.1 HZ2.out).1).trans HZ2.out
    have HZ3 := Lib.hid hz3
    have HB3 := Lib.hid (HB2.out.trans (hb3.mono HB2.out.size))
    have HV := Lib.hid hv1
    have hlt := (Array.getElem?_eq_some_iff.1 HZ2.out).1
    obtain ⟨c0, c1, c2, c3, c4, c5, f0, f1, f2, f3, f4, f5⟩ := cellsR hz3
    clear hv1 hb3 KS1 hz3
    go_wp2
    exact ret_new HZ3.out HV.out hlt HB3.out (Nat.le_refl _) Tryz.results19 rfl rfl
set_option maxHeartbeats 2000000 in
set_option maxRecDepth 100000 in
theorem StarX_any {ok : Nat → Prop} (r : Rx) (v : Value) (w : World) (h : ReAt ok w v r) :
    Calls Tryz.prog 20 #[v] w (NewPost (starX r) w) := by
  obtain ⟨x0, x1, x2, x3, x4, xl, xn, xc, rfl⟩ := cells_re h
  have B := Lib.hid (Bn1.new w (.cells #[.int .u8 x0, .int .u64 x1, .int .u64 x2, .int .u64 x3, .int .u64 x4, .slice xl xn xc] 27))
  have HB2 := Lib.hid (al2 w (.cells #[.int .u8 x0, .int .u64 x1, .int .u64 x2, .int .u64 x3, .int .u64 x4, .slice xl xn xc] 27) zR)
  have hr := row_new (h.below HB2.out)
  have hsz : ((w.alloc (.cells #[.int .u8 x0, .int .u64 x1, .int .u64 x2, .int .u64 x3, .int .u64 x4, .slice xl xn xc] 27)).alloc zR).heap.size = w.heap.size + 2 := by simp
  rw [hsz] at hr
  have HR := Lib.hid hr
  have KM := Lib.hid fun (al : Option Addr) (W : World) (h : RowAt (fun _ => True) W al [r]) => mayX [r] al 1 W (by simp) h
  rw [show [r].length = 1 from rfl, show [r].all mayR = mayR r from by simp] at KM
  have B3 := Lib.hid (B.out.go ((Below.refl _ _).alloc (Nat.le_refl _) (.cells #[.int .u8 x0, .int .u64 x1, .int .u64 x2, .int .u64 x3, .int .u64 x4, .slice xl xn xc] 27)))
  cases hm : mayR r with
  | false =>
    rw [show starX r = .node 0 Ws.nil [] from by unfold starX; rw [exX_no hm]; rfl]
    rw [hm] at KM
    clear hm h hr hsz B HB2
    go_enter Tryz.func20, Tryz.ntmps20
    go_wp2_with fail
    refine (KM.out _ _ HR.out).mono ?_
    rintro e w1 ⟨rfl, hb1⟩
    have B1 := Lib.hid (B3.out.go hb1)
    clear hb1 B3 KM HR
    obtain ⟨c0, c1, c2, c3, c4, c5, f0, f1, f2, f3, f4, f5⟩ := cellsR B1.out.2.1
    go_wp2
    exact ret_re (putR B1.out.2.1 _ _ _ _ _ _) Tryz.results20 rfl rfl ⟨_, rfl, bareAt _ _ 0 Ws.nil (by decide) Ws.nil_ok, putB B1.out.2.2 (by omega) _ _ _ _ _ _⟩
  | true =>
    obtain ⟨e0, he0, we, hs⟩ := may_ex h hm
    rw [show starX r = (starE (nfE e0)).rx from by unfold starX; rw [← he0, exX_of we hs]; rfl]
    rw [hm] at KM
    have KN := Lib.hid fun W (hb : Below w.heap.size w W) => normal_any (e := e0) (by omega) we (.agg #[.int .u8 x0, .int .u64 x1, .int .u64 x2, .int .u64 x3, .int .u64 x4, .slice xl xn xc]) W (by rw [he0]; exact h.below hb)
    have KS := Lib.hid fun ok v W (h : ReAt ok W v (nfE e0).rx) => nstar_any (nfE e0) ok v W h
    generalize starE (nfE e0) = res at *
    generalize nfE e0 = na at *
    clear hm h he0 hr hsz B HB2
    go_enter Tryz.func20, Tryz.ntmps20
    go_wp2_with fail
    refine (KM.out _ _ HR.out).mono ?_
    rintro e w1 ⟨rfl, hb1⟩
    have B1 := Lib.hid (B3.out.go hb1)
    clear hb1 B3 KM HR
    obtain ⟨c0, c1, c2, c3, c4, c5, -⟩ := cellsR B1.out.1
    go_wp2_with fail
    refine (KN.out _ B1.out.2.2).mono ?_
    rintro e w2 ⟨v2, rfl, hv2, hb2⟩
    have B2 := Lib.hid (B1.out.go hb2)
    have KS2 := Lib.hid (KS.out _ v2 w2 hv2)
    have hlt := (Array.getElem?_eq_some_iff.1 B1.out.2.1).1
    have hs2 := hb2.size
    clear hv2 hb2 B1 c0 c1 c2 c3 c4 c5 KN KS
    go_wp2_with fail
    refine KS2.out.mono ?_
    rintro e w3 ⟨v3, rfl, hv3, hb3⟩
    obtain ⟨q0, q1, q2, q3, q4, ql, qn, qc, rfl⟩ := cells_re hv3
    have B3 := Lib.hid (B2.out.go hb3)
    have HV := Lib.hid (hv3.imp (ok' := New (w.heap.size + 2)) fun b _ h => by
      unfold New at *
      rcases h with h | h <;> omega)
    clear hv3 hb3 KS2 B2 hs2
    obtain ⟨c0, c1, c2, c3, c4, c5, f0, f1, f2, f3, f4, f5⟩ := cellsR B3.out.2.1
    go_wp2
    exact ret_new B3.out.2.1 HV.out (by omega) B3.out.2.2 (by omega) Tryz.results20 rfl rfl
end Go.Proofs.YtfmdcnfniimkoaaGreat
/- quillref08.Many. Made by wip/r8-v.py. -/
namespace Go.Proofs.YtfmdcnfniimkoaaGreat
open Go.RowKit
/-- A row of one's own, in whose block no expression's row lies. -/
def RwM (B : Nat) (w : World) (v : Value) (ps : List Ex) : Prop := ∃ xs, w.ownsRow B 27 6 v ps.length xs ∧ RowVals (fun b => v.ownBlock ≠ some b) w xs (ps.map Ex.rx)
theorem RwM.below {B : Nat} {w w' : World} {v : Value} {ps : List Ex} (h : RwM B w v ps) (hb : Below w.heap.size w w') : RwM B w' v ps := by
  obtain ⟨xs, h1, h2⟩ := h
  exact ⟨xs, ownR_below h1 hb, h2.go (keptB hb _)⟩
theorem RwM.row {B : Nat} {w : World} {v : Value} {ps : List Ex} (h : RwM B w v ps) : ∃ al cap, v = .slice al ps.length cap ∧ RowAt (fun _ => True) w al (ps.map Ex.rx) := by
  obtain ⟨xs, h1, h2⟩ := h
  have hl : (ps.map Ex.rx).length = ps.length := List.length_map ..
  rw [← hl] at h1
  obtain ⟨al, cap, e1, e2, e3⟩ := row_of_own h1 h2
  rw [hl] at e1
  exact ⟨al, cap, e1, e3.imp fun b _ h => trivial⟩
theorem RwM.push {B g cap : Nat} {w wA w4 : World} {v : Value} {ps : List Ex} {e : Ex} {c0 c1 c2 c3 c4 c5 : Value} {xs : List Value} (hv : RowVals (fun b => v.ownBlock ≠ some b) w xs (ps.map Ex.rx)) (he : ReAt (fun b => v.ownBlock ≠ some b) w (.agg #[c0, c1, c2, c3, c4, c5]) e.rx) (hA : Below w.heap.size w wA) (hown : w4.ownsRow B 27 6 (.slice (some ⟨g, 0, none⟩) (ps.length + 1) cap) (ps.length + 1) (xs ++ [c0, c1, c2, c3, c4, c5])) (hgrow : wA.grownBy w4 v.ownBlock)
    (hat : v.ownBlock = some g ∨ g = wA.heap.size) : RwM B w4 (.slice (some ⟨g, 0, none⟩) (ps.length + 1) cap) (ps ++ [e]) := by
  have hkept : Kept (fun b => v.ownBlock ≠ some b) (fun b => (Value.slice (some ⟨g, 0, none⟩) (ps.length + 1) cap).ownBlock ≠ some b) w w4 := by
    refine ⟨Nat.le_trans hA.size hgrow.size, fun b h1 h2 => ⟨?_, ?_⟩⟩
    · intro e'
      simp [Value.ownBlock] at e'
      rcases hat with h | h
      · exact h2 (by rw [← e']; exact h)
      · have := hA.size; omega
    · exact (hgrow.block b (Nat.lt_of_lt_of_le h1 hA.size) (fun e' => h2 e'.symm)).trans (hA.block b h1)
  refine ⟨xs ++ [c0, c1, c2, c3, c4, c5], by simpa using hown, ?_⟩
  rw [List.map_append]
  exact (hv.go hkept).append ((RowVals.one he).go hkept)
theorem sizeL_sum (l : List Ex) : sizeL l = Ex.sum l := rfl
noncomputable def nfD (r : Rx) : Ex := nfE (exD r)
theorem nfD_map (l : List Rx) : (l.map exD).map nfE = l.map nfD := by rw [List.map_map]; rfl
def mnyInv (l : List Rx) (w W1 : World) (v y : Value) (wr : World) : Prop := ∃ i : Nat, i ≤ l.length ∧ y = .int .i64 i ∧ (l.take i).all mayR = true ∧ RwM (w.heap.size + 1) wr v ((l.take i).map nfD) ∧ Below (w.heap.size + 1) W1 wr
def outInv8 (M : List Ex) (g7 : Nat) (al : Option Addr) (w4 : World) (vi : Value) (wr : World) : Prop := ∃ (j : Nat) (y0 y1 y2 y3 y4 : Int) (yl : Option Addr) (yn yc : Nat), vi = .int .i64 ((j : Int) - 1) ∧ j ≤ M.length ∧ wr.heap[g7]? = some (.cells #[.int .u8 y0, .int .u64 y1, .int .u64 y2, .int .u64 y3, .int .u64 y4, .slice yl yn yc] 27) ∧
  ReAt (fun b => b ≠ g7) wr (.agg #[.int .u8 y0, .int .u64 y1, .int .u64 y2, .int .u64 y3, .int .u64 y4, .slice yl yn yc]) (seqF (M.drop j)).rx ∧ RowAt (fun b => b ≠ g7) wr al (M.map Ex.rx) ∧ Below g7 w4 wr
theorem ex_row {ok : Nat → Prop} {w : World} {al : Option Addr} {l : List Rx} (h : RowAt ok w al l) {i : Nat} (hi : i < l.length) (hm : mayR l[i] = true) : (exD l[i]).rx = l[i] ∧ (exD l[i]).Wf ∧ (exD l[i]).size ≤ 2000 := by
  obtain ⟨b, off, _, _, hn⟩ := h.kid hi
  generalize l[i] = q at *
  obtain ⟨k, s, ks⟩ := q
  obtain ⟨al', cap', _, hre⟩ := hn.read
  obtain ⟨e, he, we, hs⟩ := may_ex hre hm
  have hd : exD (.node k s ks) = e := by unfold exD; rw [← he, exX_of we hs]; rfl
  rw [hd]
  exact ⟨he, we, hs⟩
set_option maxHeartbeats 8000000 in
set_option maxRecDepth 100000 in
theorem many8_any {ok : Nat → Prop} (k : Nat) (hk : k = 4 ∨ k = 5) (l : List Rx) (al : Option Addr) (cap : Nat) (w : World) (hsz : Rx.sizes l ≤ 400000) (h : RowAt ok w al l) :
    Calls Tryz.prog 18 #[.int .u8 k, .slice al l.length cap] w (RePost (fun _ => True) (manyX k l) w) := by
  obtain ⟨i0, z0, hi0, hz0, hz1, hz2, hz3⟩ := infoR2
  have hz2' := Lib.hid hz2
  have hll : l.length ≤ Rx.sizes l := length_le_sizes l
  obtain ⟨W1, hW1⟩ : ∃ x, x = (w.alloc zR).alloc (.cells #[] 27) := ⟨_, rfl⟩
  have hb1 : Below w.heap.size w W1 := by rw [hW1]; exact al2 w _ _
  have hz : W1.heap[w.heap.size]? = some zR := by rw [hW1]; exact (Below.heap_alloc _ _ _ (by simp)).trans (blk_new w _)
  have hg0 : W1.heap[w.heap.size + 1]? = some (.cells #[] 27) := by rw [hW1]; exact blk_at _ _ (by simp)
  have HI := Lib.hid (show mnyInv l w W1 (.slice (some ⟨w.heap.size + 1, 0, none⟩) 0 0) (.int .i64 0) W1 from ⟨0, Nat.zero_le _, rfl, rfl, ⟨[], ⟨rfl, .inr ⟨_, 0, #[], rfl, Nat.le_refl _, hg0, Nat.le_refl _, Nat.zero_le _, rfl, rfl⟩⟩, RowVals.nil _ _⟩, Below.refl _ _⟩)
  have HW1 := Lib.hid hW1
  have HR := Lib.hid (h.imp (ok' := Lo w.heap.size) fun b hb _ => hb)
  have HB1 := Lib.hid hb1
  have HZ := Lib.hid fun wr (hb : Below (w.heap.size + 1) W1 wr) => (hb.block _ (Nat.lt_succ_self _)).trans hz
  have HBW := Lib.hid fun wr (hb : Below (w.heap.size + 1) W1 wr) => hb1.trans (hb.mono (Nat.le_succ _))
  have hws : w.heap.size + 1 ≤ W1.heap.size := Nat.le_of_lt (Array.getElem?_eq_some_iff.1 hg0).1
  clear hz2 hW1 h hb1 hz hg0
  go_enter Tryz.func18, Tryz.ntmps18
  go_wp2_with fail
  rw [← HW1.out]
  go_loopw [5, 12] (fun v y wr => mnyInv l w W1 v y wr) (fun _ y _ => l.length - (intOf y).toNat)
  case atStart => exact HI.out
  case round =>
    obtain ⟨i, hi, rfl, hall, hrow, hb⟩ := hrel
    have HAL := Lib.hid hall
    have HRW := Lib.hid hrow
    have HBR := Lib.hid hb
    have hbw := HBW.out _ hb
    have hzr := HZ.out _ hb
    have hsr := Nat.le_trans hws hb.size
    clear hall hrow hb HI
    by_cases hlt : i < l.length
    · obtain ⟨b, off, hab, hblt, hnode⟩ := HR.out.kid hlt
      subst hab
      have hkid := NodeAt.below hbw _ hblt hnode
      have htk : (l.take (i + 1)).all mayR = ((l.take i).all mayR && mayR l[i]) := by rw [List.take_succ_eq_append_getElem hlt, List.all_append]; simp
      have hno : mayR l[i] = false → l.all mayR = false := fun h => by rw [List.all_eq_false]; exact ⟨l[i], List.getElem_mem hlt, by rw [h]; simp⟩
      have hmp : (l.take (i + 1)).map nfD = (l.take i).map nfD ++ [nfD l[i]] := by rw [List.take_succ_eq_append_getElem hlt, List.map_append]; rfl
      have hexr := fun hm => ex_row HR.out hlt hm
      have hsk := size_kid hlt
      have hdl : ((l.take i).map nfD).length = i := by simp; omega
      generalize hps : (l.take i).map nfD = ps at *
      have HXR := Lib.hid hexr
      have HMP := Lib.hid hmp
      have HTK := Lib.hid htk
      have HNO := Lib.hid hno
      clear hnode hexr hmp htk hno hps
      generalize l[i] = kid at *
      obtain ⟨kk, ⟨ta, tb, tc, td⟩, ks⟩ := kid
      obtain ⟨al', cap', hsix, hre⟩ := hkid.read
      have HSIX := Lib.hid hsix
      obtain ⟨c0, c1, c2, c3, c4, c5⟩ := hsix
      try simp only at c0 c1 c2 c3 c4 c5
      have HRE := Lib.hid hre
      have K := Lib.hid (refMay_any _ _ wr (by omega) hre)
      clear hkid hre
      have hblr : b < wr.heap.size := Nat.lt_of_lt_of_le hblt hbw.size
      have q1 : (i : Int) < (l.length : Int) := by omega
      have wi : IntKind.i64.wrap ((i : Int) + 1) = (i : Int) + 1 := by rw [IntKind.wrap_i64]; omega
      go_wp2_with fail
      refine K.out.mono ?_
      rintro e w1 ⟨rfl, hb1⟩
      have hbB := HBR.out.trans (hb1.mono hsr)
      have HBB := Lib.hid hbB
      have hz1b := HZ.out _ hbB
      have HZ1 := Lib.hid hz1b
      obtain ⟨d0, d1, d2, d3, d4, d5⟩ := six_keep hblr HSIX.out hb1
      try simp only at d0 d1 d2 d3 d4 d5
      have HRE1 := Lib.hid (HRE.out.below hb1)
      have HRW1 := Lib.hid (HRW.out.below hb1)
      have hsz1 := hb1.size
      clear c0 c1 c2 c3 c4 c5 hb1 K hbB
      cases hq : mayR (.node kk ⟨ta, tb, tc, td⟩ ks) with
      | false =>
        have hmx : manyX k l = .node 0 Ws.nil [] := by unfold manyX; rw [if_neg (by rw [HNO.out hq]; decide)]
        have HMX := Lib.hid hmx
        obtain ⟨e0, e1, e2, e3, e4, e5, f0, f1, f2, f3, f4, f5⟩ := cellsR hz1b
        clear hmx hz1b hq
        go_wp2
        rw [HMX.out]
        exact ret_re (putR HZ1.out _ _ _ _ _ _) Tryz.results18 rfl rfl ⟨_, rfl, bareAt _ _ 0 Ws.nil (by decide) Ws.nil_ok, putB (HBW.out _ HBB.out) (Nat.le_refl _) _ _ _ _ _ _⟩
      | true =>
        obtain ⟨hx1, hx2, hx3⟩ := HXR.out hq
        have KO := Lib.hid (Kx.ref8of (exD (.node kk ⟨ta, tb, tc, td⟩ ks)).size _ (Nat.le_refl _) hx2 (by omega) (Lo w.heap.size) _ w1 (by rw [hx1]; exact HRE1.out))
        have hfin : ∀ wr2 v2, RwM (w.heap.size + 1) wr2 v2 (ps ++ [nfD (.node kk ⟨ta, tb, tc, td⟩ ks)]) → Below (w.heap.size + 1) W1 wr2 → mnyInv l w W1 v2 (.int .i64 ((i + 1 : Nat) : Int)) wr2 := fun wr2 v2 h1 h2 => ⟨i + 1, hlt, rfl, by rw [HTK.out, HAL.out, hq]; rfl, by rw [HMP.out]; exact h1, h2⟩
        have HFIN := Lib.hid hfin
        rw [show nfE (exD (.node kk ⟨ta, tb, tc, td⟩ ks)) = nfD (.node kk ⟨ta, tb, tc, td⟩ ks) from rfl] at KO
        generalize nfD (.node kk ⟨ta, tb, tc, td⟩ ks) = en at *
        clear hx1 hx2 hx3 hfin hq hz1b HXR
        go_wp2_with fail
        refine KO.out.mono ?_
        rintro e w2 ⟨v2, rfl, hv2, hb2⟩
        obtain ⟨q0, q1, q2, q3, q4, ql, qn, qc, rfl⟩ := cells_re hv2
        obtain ⟨xs, hown, hvals⟩ := HRW1.out.below hb2
        have hge := own_lt' HRW1.out.choose_spec.1
        have hvq : ReAt (fun b => u5.ownBlock ≠ some b) w2 (.agg #[.int .u8 q0, .int .u64 q1, .int .u64 q2, .int .u64 q3, .int .u64 q4, .slice ql qn qc]) en.rx := hv2.imp fun b _ h e => by
          have h2 := hge b e
          rcases h with h | h
          · have : b < w.heap.size := h; omega
          · omega
        have HOW := Lib.hid hown
        have HVA := Lib.hid hvals
        have HVQ := Lib.hid hvq
        have hb3 := HBB.out.trans (hb2.mono (Nat.le_trans hsr hsz1))
        have HB3 := Lib.hid hb3
        have hws2 : w.heap.size + 1 ≤ w2.heap.size := Nat.le_trans hws hb3.size
        clear hown hvals hvq hb3 hb2 hv2 hge d0 d1 d2 d3 d4 d5 KO
        go_wp2_with (at_builtin; refine wpList_append_lies _ rfl _ _ 25 rfl (w.heap.size + 1) 27 i0 z0 6 64 Tryz.underlying25 hi0 hz0 hz1 hz2'.out hz3 (by decide) _ _ _ rfl (HOW.out.alloc _) ⟨w2.heap.size, 0, none⟩ 1 1 [.int .u8 q0, .int .u64 q1, .int .u64 q2, .int .u64 q3, .int .u64 q4, .slice ql qn qc] rfl rfl ?c1 ?c2 (by decide) ?c3 ?c4 ?c5 _ rfl ?_)
        case c1 => exact six_cells w2 _ _ _ _ _ _
        case c2 => intro u hu; simp at hu; rcases hu with rfl | rfl | rfl | rfl | rfl | rfl <;> rfl
        case c3 => unfold maxLen; omega
        case c4 => omega
        case c5 => simp; omega
        intro g' cap'' w4 hown' hgrow hat hlt'
        have hAA : Below w2.heap.size w2 (w2.alloc (.cells #[.int .u8 q0, .int .u64 q1, .int .u64 q2, .int .u64 q3, .int .u64 q4, .slice ql qn qc] 27)) := (Below.refl _ w2).alloc (Nat.le_refl _) _
        rw [← hdl] at hown'
        have hP := RwM.push HVA.out HVQ.out hAA hown' hgrow (by simpa using hat)
        have hb4 : Below (w.heap.size + 1) W1 w4 := Below.grown (HB3.out.trans (hAA.mono hws2)) hgrow (Nat.le_trans hws2 hAA.size) (fun g hg => (HOW.out.lt g hg).1)
        have HF := Lib.hid (HFIN.out _ _ hP hb4)
        clear hP hb4 hAA hown' hgrow hat HOW HVA HVQ HFIN
        go_wp2
        exact ⟨by simpa [hdl] using HF.out, by simp [intOf]; omega⟩
    · have hke : i = l.length := by omega
      subst hke
      have q1 : ¬ (l.length : Int) < (l.length : Int) := by omega
      have htl : l.take l.length = l := List.take_of_length_le (Nat.le_refl _)
      rw [htl] at HAL HRW
      obtain ⟨al2, cap2, rfl, hrw⟩ := HRW.out.row
      have hml : (l.map nfD).length = l.length := by simp
      rw [hml] at *
      obtain ⟨L, hL, hLw, hLd⟩ := rows_ex HR.out HAL.out
      have hM : l.map nfD = L.map nfE := by rw [← nfD_map, hLd]
      have hsum : Ex.sum L = Rx.sizes l := by rw [← hL, sum_rx]
      have hwf : Ex.Wfs (L.map nfE) := nfs_wf fun e he => (hLw e he).1
      have hsl : Ex.sum (L.map nfE) ≤ Rx.sizes l := by rw [← hsum]; exact sum_nf L
      have hmx : manyX k l = (if k = 4 then seqF (L.map nfE) else altE (L.map nfE)).rx := by unfold manyX; rw [if_pos HAL.out, hLd]
      rw [hM] at hrw
      obtain ⟨M, hMM⟩ : ∃ M, M = L.map nfE := ⟨_, rfl⟩
      rw [← hMM] at hrw hwf hsl hmx
      have hMl : l.length = M.length := by rw [hMM, List.length_map, ← hL, List.length_map]
      have hMs : M.length ≤ 400000 := by rw [← hMl]; omega
      have HMX := Lib.hid hmx
      have HRM := Lib.hid hrw
      have HWF := Lib.hid hwf
      have HZR := Lib.hid hzr
      have HBW2 := Lib.hid hbw
      obtain ⟨t0, t1, t2, t3, t4, t5, o0, o1, o2, o3, o4, o5⟩ := cellsR hzr
      clear hL hLd hLw hM hsum hwf hmx hrw htl hml hMM HAL HRW HBW HBR hzr
      rw [hMl] at *
      rcases hk with rfl | rfl
      · rw [if_pos rfl] at HMX
        rw [show (((4 : Nat) : Int)) = 4 from rfl]
        have KB := Lib.hid (bare_any 2 wr (by decide))
        rw [show (((2 : Nat) : Int)) = 2 from rfl] at KB
        have e1 : IntKind.i64.wrap ((M.length : Int) - 1) = (M.length : Int) - 1 := by rw [IntKind.wrap_i64]; omega
        go_wp2_with fail
        refine KB.out.mono ?_
        rintro e w4 ⟨v4, rfl, hv4, hb4⟩
        obtain ⟨s0, s1, s2, s3, s4, sl, sn, sc, rfl⟩ := cells_re hv4
        have hz4 := (hb4.block _ (Array.getElem?_eq_some_iff.1 HZR.out).1).trans HZR.out
        have hzlt := (Array.getElem?_eq_some_iff.1 hz4).1
        have HZ4 := Lib.hid hz4
        have HB4 := Lib.hid (HBW2.out.trans (hb4.mono HBW2.out.size))
        have hal : Below w4.heap.size w4 (w4.alloc (.cells #[.int .u8 s0, .int .u64 s1, .int .u64 s2, .int .u64 s3, .int .u64 s4, .slice sl sn sc] 27)) := (Below.refl _ w4).alloc (Nat.le_refl _) _
        have hst : outInv8 M w4.heap.size al2 w4 (.int .i64 ((M.length : Int) - 1)) (w4.alloc (.cells #[.int .u8 s0, .int .u64 s1, .int .u64 s2, .int .u64 s3, .int .u64 s4, .slice sl sn sc] 27)) := ⟨M.length, s0, s1, s2, s3, s4, sl, sn, sc, rfl, Nat.le_refl _, blk_new w4 _, by rw [List.drop_length]; exact (leaf_any _ hv4), ((HRM.out.imp fun b hb _ => Nat.ne_of_lt (Nat.lt_of_lt_of_le hb hb4.size)).below hb4).below hal, hal⟩
        have HST := Lib.hid hst
        clear hv4 hb4 hal hst KB t0 t1 t2 t3 t4 t5 o0 o1 o2 o3 o4 o5 hz4 HRM HZR HZ HBW2
        go_wp2_with fail
        go_loopw [8] (fun vi wr => outInv8 M w4.heap.size al2 w4 vi wr) (fun vi _ => (intOf vi + 1).toNat)
        case atStart => exact HST.out
        case round =>
          clear HST
          obtain ⟨j, y0, y1, y2, y3, y4, yl, yn, yc, rfl, hj, hvar, hre, hra, hbo⟩ := hrel
          have HVR := Lib.hid hvar
          have HRE := Lib.hid hre
          have HRA := Lib.hid hra
          have HBO := Lib.hid hbo
          clear hvar hre hra hbo
          match j, hj with
          | 0, hj =>
            have q2 : ¬ (0 : Int) ≤ ((0 : Nat) : Int) - 1 := by omega
            have hz5 := (HBO.out.block _ hzlt).trans HZ4.out
            have HZ5 := Lib.hid hz5
            have HB5 := Lib.hid (HB4.out.trans (HBO.out.mono (Nat.le_of_lt hzlt)))
            obtain ⟨c0, c1, c2, c3, c4, c5, -⟩ := cellsR HVR.out
            obtain ⟨t0, t1, t2, t3, t4, t5, o0, o1, o2, o3, o4, o5⟩ := cellsR hz5
            have HV := Lib.hid (HRE.out.imp (ok' := okN (fun _ => True) w.heap.size) fun _ _ _ => Or.inl trivial)
            clear hz5
            go_wp2
            rw [HMX.out]
            exact ret_ex (e := seqF M) (ok := fun _ => True) HZ5.out HV.out HB5.out (Nat.le_refl _) Tryz.results18 rfl rfl
          | p + 1, hj =>
            have hpl : p < M.length := hj
            have hpl' : p < (M.map Ex.rx).length := by rw [List.length_map]; exact hpl
            obtain ⟨b, off, hab, hblt, hbne, hnode⟩ := HRA.out.kidOk hpl'
            rw [List.getElem_map] at hnode
            have hdr : M.drop p = M[p] :: M.drop (p + 1) := List.drop_eq_getElem_cons hpl
            have hsq : seqF (M.drop p) = seqE M[p] (seqF (M.drop (p + 1))) := by rw [hdr]; rfl
            have HSQ := Lib.hid hsq
            have hszp : M[p].size ≤ 400000 := Nat.le_trans (Nat.le_trans (sum_get hpl) hsl) hsz
            subst hab
            clear hdr hsq
            generalize M[p] = em at *
            generalize seqF (M.drop (p + 1)) = et at *
            obtain ⟨kk, ⟨ka, kb, kc, kd⟩, ks, hks⟩ := rx_form em
            rw [hks] at hnode
            obtain ⟨al9, cap9, hsix, hrek⟩ := hnode.read
            rw [← hks] at hrek
            have HSIX := Lib.hid hsix
            have KS0 := Lib.hid fun x (hx : Below wr.heap.size wr x) => ref8seq em.size em (Nat.le_refl _) (fun b => b ≠ w4.heap.size) et _ _ x (hrek.below hx) (HRE.out.below hx)
            clear hsix hrek hnode hks
            have q2 : (0 : Int) ≤ (p : Int) := by omega
            have q3 : (p : Int) < (M.length : Int) := by omega
            have wp : IntKind.i64.wrap ((p : Int) - 1) = (p : Int) - 1 := by rw [IntKind.wrap_i64]; omega
            have CK := Lib.hid fun x (hx : Below wr.heap.size wr x) => six_keep hblt HSIX.out hx
            have CY := Lib.hid fun x (hx : Below wr.heap.size wr x) => cellsR ((hx.block _ (Array.getElem?_eq_some_iff.1 HVR.out).1).trans HVR.out)
            have hg7r : w4.heap.size < wr.heap.size := (Array.getElem?_eq_some_iff.1 HVR.out).1
            have HN := Lib.hid fun x (hx : Below wr.heap.size wr x) bb (h : okN (fun b => b ≠ w4.heap.size) x.heap.size bb) => show bb ≠ w4.heap.size from h.elim id fun h e => by have := hx.size; omega
            rw [show (((p + 1 : Nat) : Int) - 1) = (p : Int) from by omega]
            have KS := KS0
            have HFIN := Lib.hid (show ∀ x (p0 p1 p2 p3 p4 : Int) (pl : Option Addr) (pn pc : Nat), Below wr.heap.size wr x → ReAt (fun b => b ≠ w4.heap.size) x (.agg #[.int .u8 p0, .int .u64 p1, .int .u64 p2, .int .u64 p3, .int .u64 p4, .slice pl pn pc]) (seqE em et).rx → outInv8 M w4.heap.size (some ⟨b, off, none⟩) w4 (.int .i64 ((p : Int) - 1)) (putW x w4.heap.size (.int .u8 p0) (.int .u64 p1) (.int .u64 p2) (.int .u64 p3) (.int .u64 p4) (.slice pl pn pc)) from fun x p0 p1 p2 p3 p4 pl pn pc hx hr =>
              ⟨p, p0, p1, p2, p3, p4, pl, pn, pc, rfl, Nat.le_of_lt hpl, putR ((hx.block _ hg7r).trans HVR.out) _ _ _ _ _ _, by rw [HSQ.out]; exact hr.go ⟨by rw [putW_size]; exact Nat.le_refl _, fun bb _ h => ⟨h, putW_other _ _ _ _ _ _ _ _ h⟩⟩, (HRA.out.below hx).go ⟨by rw [putW_size]; exact Nat.le_refl _, fun bb _ h => ⟨h, putW_other _ _ _ _ _ _ _ _ h⟩⟩, putB (HBO.out.trans (hx.mono (Nat.le_of_lt hg7r))) (Nat.le_refl _) _ _ _ _ _ _⟩)
            go_wp2_with fail
            refine wp_region_orderT 6 (fun i => ([SP.eq (.slice (some ⟨b, off, none⟩) M.length cap2), SP.eq (.int .i64 (p : Int)), SP.eq (.pointer (some ⟨b, off + p * 6, none⟩)), SP.eq (.agg #[.int .u8 kk, .int .u64 ka, .int .u64 kb, .int .u64 kc, .int .u64 kd, .slice al9 ks.length cap9]), SP.eq (.agg #[.int .u8 y0, .int .u64 y1, .int .u64 y2, .int .u64 y3, .int .u64 y4, .slice yl yn yc]), SP.ex (fun b => b ≠ w4.heap.size) (seqE em et)] : List SP).getD i SP.free) (fun _ => false) (fun _ _ _ h => by cases h) (by kernel_rfl) (by kernel_rfl) ⟨?_, ?_, ?_, ?_, ?_, ?_, trivial⟩ ?_
            · intro a x K out get hb hK
              rw [if_pos (wanted_none rfl)]
              have o5 : a.tmps[5]? = some (.slice (some ⟨b, off, none⟩) M.length cap2) := out 5 (by kernel_rfl)
              clear out get
              go_simp
              exact hK _ _ rfl (Below.refl _ _) (fun h => by cases h)
            · intro a x K out get hb hK
              rw [if_pos (wanted_none rfl)]
              have o8 : a.tmps[8]? = some (.int .i64 (p : Int)) := out 8 (by kernel_rfl)
              clear out get
              go_simp
              exact hK _ _ rfl (Below.refl _ _) (fun h => by cases h)
            · intro a x K out get hb hK
              rw [if_pos (wanted_none rfl)]
              obtain ⟨y43, hy43, rfl⟩ := get 0 _ _ rfl rfl (by kernel_rfl)
              obtain ⟨y44, hy44, rfl⟩ := get 1 _ _ rfl rfl (by kernel_rfl)
              clear out get
              go_simp
              exact hK _ _ rfl (Below.refl _ _) (fun h => by cases h)
            · intro a x K out get hb hK
              rw [if_pos (wanted_none rfl)]
              obtain ⟨y45, hy45, rfl⟩ := get 2 _ _ rfl rfl (by kernel_rfl)
              clear out get
              obtain ⟨c0, c1, c2, c3, c4, c5⟩ := CK.out x hb
              go_simp
              exact hK _ _ rfl (Below.refl _ _) (fun h => by cases h)
            · intro a x K out get hb hK
              rw [if_pos (wanted_none rfl)]
              have o7 : a.tmps[7]? = some (.pointer (some ⟨w4.heap.size, 0, none⟩)) := out 7 (by kernel_rfl)
              obtain ⟨c0, c1, c2, c3, c4, c5, -⟩ := CY.out x hb
              clear out get
              go_simp
              exact hK _ _ rfl (Below.refl _ _) (fun h => by cases h)
            · intro a x K out get hb hK
              rw [if_pos (wanted_none rfl)]
              obtain ⟨y46, hy46, rfl⟩ := get 3 _ _ rfl rfl (by kernel_rfl)
              obtain ⟨y47, hy47, rfl⟩ := get 4 _ _ rfl rfl (by kernel_rfl)
              clear out get
              go_simp
              refine (KS.out x hb).mono ?_
              rintro e w2 ⟨v2, rfl, hv2, hb2⟩
              exact hK _ _ (ExV.of hv2 fun b _ h => HN.out x hb b h) hb2 (fun h => by cases h)
            refine ao_finT (isD := fun s => decide (43 ≤ s) && decide (s ≤ 48)) (by kernel_rfl) ?_
            intro f x hv hne hb
            clear hne
            obtain ⟨p0, p1, p2, p3, p4, pl, pn, pc, e48, r48⟩ := hv 5 _ _ (by decide) rfl rfl
            have HF := Lib.hid (HFIN.out x p0 p1 p2 p3 p4 pl pn pc hb r48)
            obtain ⟨c0, c1, c2, c3, c4, c5, f0, f1, f2, f3, f4, f5⟩ := cellsR ((hb.block _ hg7r).trans HVR.out)
            clear hv r48 hb
            simp only [frm, List.drop_succ_cons, List.drop_zero]
            simp
            rw [e48]
            generalize f 43 = u43 at *
            generalize f 44 = u44 at *
            generalize f 45 = u45 at *
            generalize f 46 = u46 at *
            generalize f 47 = u47 at *
            clear e48 f
            go_wp2
            exact ⟨HF.out, by show ((p : Int) - 1 + 1).toNat < ((p : Int) + 1).toNat; omega⟩
      · rw [if_neg (by decide)] at HMX
        rw [show (((5 : Nat) : Int)) = 5 from rfl]
        have KA := Lib.hid (Kx.ref8alt (fun _ => True) wr.heap.size M al2 cap2 wr (Nat.le_refl _) (HRM.out.imp fun b hb _ => ⟨trivial, hb⟩) HWF.out (by rw [sizeL_sum]; omega) (by omega))
        go_wp2_with fail
        refine KA.out.mono ?_
        rintro e w4 ⟨v4, rfl, hv4, hb4⟩
        obtain ⟨y0, y1, y2, y3, y4, yl, yn, yc, rfl⟩ := cells_re hv4
        have hz4 := (hb4.block _ (Array.getElem?_eq_some_iff.1 HZR.out).1).trans HZR.out
        have HZ4 := Lib.hid hz4
        have HB4 := Lib.hid (HBW2.out.trans (hb4.mono HBW2.out.size))
        have HV := Lib.hid (hv4.imp (ok' := okN (fun _ => True) w.heap.size) fun _ _ _ => Or.inl trivial)
        clear hv4 hb4 KA t0 t1 t2 t3 t4 t5 o0 o1 o2 o3 o4 o5
        obtain ⟨t0, t1, t2, t3, t4, t5, o0, o1, o2, o3, o4, o5⟩ := cellsR hz4
        clear hz4
        go_wp2
        rw [HMX.out]
        exact ret_ex (e := altE M) (ok := fun _ => True) HZ4.out HV.out HB4.out (Nat.le_refl _) Tryz.results18 rfl rfl
end Go.Proofs.YtfmdcnfniimkoaaGreat
/- quilllaw08.NormMakes, walked. Made by wip/r8-w.py. -/
namespace Go.Proofs.YtfmdcnfniimkoaaGreat
open Go.RowKit
theorem mgreat_60 {r : Rx} (h : r.size ≤ 1000000000 → false = greatB r 60) (hs : r.size ≤ 1048576) : r.size ≤ 60 := by
  have := (h (by omega)).symm
  simp [greatB] at this
  omega
theorem sizes_bound : ∀ (l : List Rx) (n : Nat), (∀ r ∈ l, r.size ≤ n) → Rx.sizes l ≤ n * l.length
  | [], _, _ => by simp [Rx.sizes]
  | r :: l, n, h => by
    have h1 := h r (by simp)
    have h2 := sizes_bound l n fun q hq => h q (List.mem_cons_of_mem _ hq)
    rw [List.length_cons, Nat.mul_add, Nat.mul_one]
    simp only [Rx.sizes]
    omega
def CutM (g : Nat) (r : Rx) (W wx : World) : Prop := ∃ (y0 y1 y2 y3 y4 : Int) (yl : Option Addr) (yn yc : Nat), wx.heap[g]? = some (.cells #[.int .u8 y0, .int .u64 y1, .int .u64 y2, .int .u64 y3, .int .u64 y4, .slice yl yn yc] 27) ∧ ReAt (fun _ => True) wx (.agg #[.int .u8 y0, .int .u64 y1, .int .u64 y2, .int .u64 y3, .int .u64 y4, .slice yl yn yc]) (starX r) ∧ Below g W wx
set_option maxHeartbeats 8000000 in
set_option maxRecDepth 100000 in
theorem normMakes_walk (hRead : ReadC) {ok ok' : Nat → Prop} (al : Option Addr) (cap : Nat) (l : List Rx) (r : Rx) (v : Value) (w : World) (hl : l.length < 2199023255552) (hR : RowAt ok w al l) (hszl : Rx.sizes l ≤ 1048576) (h : ReAt ok' w v r) (hsz : r.size ≤ 1048576) :
    Calls Tryz.prog 4 #[.slice al l.length cap, v] w fun e w' => e = .returned (.bool true) ∧ Below w.heap.size w w' := by
  obtain ⟨x0, x1, x2, x3, x4, xl, xn, xc, rfl⟩ := cells_re h
  have B := Lib.hid (Bx.new w x0 x1 x2 x3 x4 xl xn xc)
  have KG := Lib.hid (greatAll_any l 60 al cap _ (hR.below B.out.2) hl (by decide))
  have G1 := Lib.hid fun W (hb : Below w.heap.size w W) => great_any r 60 _ W (h.below hb) (by decide)
  have HM := Lib.hid (fun h => mgreat_60 (r := r) h hsz)
  have MM := Lib.hid fun (hz : r.size ≤ 60) W (hb : Below w.heap.size w W) => refMay_any r _ W (by omega) (h.below hb)
  have KA := Lib.hid (awake8_any hRead)
  have hex := fun hm => may_ex h hm
  have HEX := Lib.hid hex
  have H7 := Lib.hid fun (e0 : Ex) (he : e0.rx = r) (we : e0.Wf) (hs : e0.size ≤ 2000) W (hb : Below w.heap.size w W) => Kx.ref8of e0.size e0 (Nat.le_refl _) we (by omega) (fun _ => True) _ W (by rw [he]; exact (h.below hb).imp fun _ _ _ => trivial)
  have H4 := Lib.hid fun (hz : Rx.sizes l ≤ 1200) W (hb : Below w.heap.size w W) => SeqX_any l al cap W (by omega) (hR.below hb)
  have H5 := Lib.hid fun (hz : Rx.sizes l ≤ 1200) W (hb : Below w.heap.size w W) => AltX_any l al cap W (by omega) (hR.below hb)
  have H6 := Lib.hid fun W (hb : Below w.heap.size w W) => StarX_any r _ W (h.below hb)
  have N4 := Lib.hid fun (hz : Rx.sizes l ≤ 1200) W (hb : Below w.heap.size w W) => many8_any 4 (.inl rfl) l al cap W (by omega) (hR.below hb)
  have N5 := Lib.hid fun (hz : Rx.sizes l ≤ 1200) W (hb : Below w.heap.size w W) => many8_any 5 (.inr rfl) l al cap W (by omega) (hR.below hb)
  rw [show (((4 : Nat) : Int)) = 4 from rfl] at N4
  rw [show (((5 : Nat) : Int)) = 5 from rfl] at N5
  have KS := Lib.hid fun (t : Rx) (ok1 ok2 : Nat → Prop) v u W (h : ReAt ok1 W v t) (h' : ReAt ok2 W u t) => refSame t t v u W h h'
  have hstar : mayR r = false → starX r = .node 0 Ws.nil [] := fun hm => by unfold starX; rw [exX_no hm]; rfl
  have HST := Lib.hid hstar
  have hstar2 : ∀ e0 : Ex, e0.rx = r → e0.Wf → e0.size ≤ 2000 → (starE (nfE e0)).rx = starX r := fun e0 he we hs => by unfold starX; rw [← he, exX_of we hs]; rfl
  have HS2 := Lib.hid hstar2
  clear h hRead hex hR hstar hstar2
  obtain ⟨m, hm⟩ : ∃ m, mayR r = m := ⟨_, rfl⟩
  rw [hm] at MM HEX HST
  clear hm
  go_enter Tryz.func4, Tryz.ntmps4
  go_wp2_with fail
  refine KG.out.mono ?_
  rintro e w1 ⟨g, rfl, -, hg, hb⟩
  replace B := Lib.hid (B.out.go hb)
  have HGE := Lib.hid (hg (by omega))
  clear hg hb KG
  cases g with
  | true =>
    go_wp2_with fail
    refine (KA.out _).mono ?_
    rintro e w2 ⟨rfl, hb⟩
    have hB := (B.out.go hb).2
    go_wp2
    go_ret
    exact ⟨rfl, hB⟩
  | false =>
    obtain ⟨c0, c1, c2, c3, c4, c5, -⟩ := cellsR B.out.1
    go_wp2_with fail
    refine (G1.out _ B.out.2).mono ?_
    rintro e w' ⟨⟨p, rfl, hp⟩, hb⟩
    replace B := Lib.hid (B.out.go hb)
    have HP := Lib.hid hp
    clear hb hp c0 c1 c2 c3 c4 c5
    cases p with
    | true =>
      go_wp2_with fail
      refine (KA.out _).mono ?_
      rintro e w2 ⟨rfl, hb⟩
      have hB := (B.out.go hb).2
      go_wp2
      go_ret
      exact ⟨rfl, hB⟩
    | false =>
      have hz := HM.out HP.out
      have hzl : Rx.sizes l ≤ 1200 := by
        have h1 := HGE.out.symm
        simp only [greatAllB, Bool.or_eq_false_iff, List.any_eq_false] at h1
        have h2 := sizes_bound l 60 fun q hq => by
          have h3 := h1.2 q hq
          simp [greatB] at h3; omega
        have h4 := h1.1
        simp at h4
        omega
      obtain ⟨w2, hw2⟩ : ∃ x, x = w' := ⟨_, rfl⟩
      subst hw2
      have hal := (Below.refl _ w2).alloc (Nat.le_refl _) zR
      have HZ := Lib.hid (blk_new w2 zR)
      have B3 := Lib.hid (B.out.go hal)
      have HAL := Lib.hid hal
      have MM3 := Lib.hid (MM.out hz _ B3.out.2)
      obtain ⟨c0, c1, c2, c3, c4, c5, -⟩ := cellsR B3.out.1
      clear hal MM
      go_wp2_with fail
      refine MM3.out.mono ?_
      rintro e w3 ⟨rfl, hb3⟩
      have B4 := Lib.hid (B3.out.go hb3)
      have HZ4 := Lib.hid ((hb3.block _ (by simp)).trans HZ.out)
      have HA4 := Lib.hid (HAL.out.trans (hb3.mono HAL.out.size))
      clear hb3 HZ HAL MM3 B3 c0 c1 c2 c3 c4 c5
      go_upto_if 15 with fail
      go_cut [4] from 16 to 18 (fun v wx => v = .bool false ∧ CutM w2.heap.size r w2 wx)
      case first =>
        cases m with
        | false =>
          go_wp2_with fail
          go_meet
          refine ⟨rfl, 0, 0, 0, 0, 0, none, 0, 0, HZ4.out, ?_, HA4.out⟩
          rw [HST.out trivial]
          exact bareAt _ _ 0 Ws.nil (by decide) Ws.nil_ok
        | true =>
          obtain ⟨e0, he, we, hs⟩ := HEX.out rfl
          have K7 := Lib.hid (H7.out e0 he we hs w3 B4.out.2)
          have hst := HS2.out e0 he we hs
          have K8 := Lib.hid fun ok v W (h : ReAt ok W v (nfE e0).rx) => ref8star (nfE e0) ok v W h
          have HQ := Lib.hid hst
          clear he we hs hst
          generalize starE (nfE e0) = es at *
          obtain ⟨c0, c1, c2, c3, c4, c5, -⟩ := cellsR B4.out.1
          go_wp2_with fail
          refine K7.out.mono ?_
          rintro e w4 ⟨v4, rfl, hv4, hb4⟩
          have HZ5 := Lib.hid ((hb4.block _ (Array.getElem?_eq_some_iff.1 HZ4.out).1).trans HZ4.out)
          have HA5 := Lib.hid (HA4.out.trans (hb4.mono HA4.out.size))
          have K9 := Lib.hid (K8.out _ v4 w4 hv4)
          clear hv4 hb4 K7 K8 c0 c1 c2 c3 c4 c5
          go_wp2_with fail
          refine K9.out.mono ?_
          rintro e w5 ⟨v5, rfl, hv5, hb5⟩
          obtain ⟨y0, y1, y2, y3, y4, yl, yn, yc, rfl⟩ := cells_re hv5
          have hz6 := (hb5.block _ (Array.getElem?_eq_some_iff.1 HZ5.out).1).trans HZ5.out
          have hput := put_ex (ok := fun _ => True) hz6 (hv5.imp fun _ _ _ => trivial)
          have HPUT := Lib.hid hput
          have HB6 := Lib.hid (putB (HA5.out.trans (hb5.mono HA5.out.size)) (Nat.le_refl _) (.int .u8 y0) (.int .u64 y1) (.int .u64 y2) (.int .u64 y3) (.int .u64 y4) (.slice yl yn yc))
          obtain ⟨t0, t1, t2, t3, t4, t5, o0, o1, o2, o3, o4, o5⟩ := cellsR hz6
          clear hv5 hb5 K9 hz6 hput
          go_wp2_with fail
          go_meet
          exact ⟨rfl, y0, y1, y2, y3, y4, yl, yn, yc, HPUT.out.1, by rw [← HQ.out]; exact HPUT.out.2, HB6.out⟩
      case rest =>
      obtain ⟨rfl, y0, y1, y2, y3, y4, yl, yn, yc, hvar, hre, hbc⟩ := hcut
      have BC := Lib.hid (B.out.go hbc)
      have HYC := Lib.hid hvar
      have HVC := Lib.hid hre
      clear hbc hvar hre B4 HZ4 HA4 HST HS2 H7 HEX B
      generalize hs4 : manyX 4 l = s4 at *
      generalize hs5 : manyX 5 l = s5 at *
      generalize hs6 : starX r = s6 at *
      have WB := Lib.hid fun x (hx : Below wc.heap.size wc x) => BC.out.2.trans (hx.mono BC.out.2.size)
      have CX := Lib.hid fun x (hx : Below wc.heap.size wc x) => cellsR (BC.out.go hx).1
      have CY := Lib.hid fun x (hx : Below wc.heap.size wc x) => cellsR ((hx.block _ (Array.getElem?_eq_some_iff.1 HYC.out).1).trans HYC.out)
      have HRY := Lib.hid fun x (hx : Below wc.heap.size wc x) => HVC.out.below hx
      have K4 := Lib.hid fun x (hx : Below wc.heap.size wc x) => H4.out hzl x (WB.out x hx)
      have K5 := Lib.hid fun x (hx : Below wc.heap.size wc x) => H5.out hzl x (WB.out x hx)
      have K6 := Lib.hid fun x (hx : Below wc.heap.size wc x) => H6.out x (WB.out x hx)
      have M4 := Lib.hid fun x (hx : Below wc.heap.size wc x) => N4.out hzl x (WB.out x hx)
      have M5 := Lib.hid fun x (hx : Below wc.heap.size wc x) => N5.out hzl x (WB.out x hx)
      have KS4 := Lib.hid (KS.out s4)
      have KS5 := Lib.hid (KS.out s5)
      have KS6 := Lib.hid (KS.out s6)
      rw [(sameR_iff s4 s4).2 rfl] at KS4
      rw [(sameR_iff s5 s5).2 rfl] at KS5
      rw [(sameR_iff s6 s6).2 rfl] at KS6
      clear hs4 hs5 hs6 H4 H5 H6 N4 N5 KS
      go_wp2_with fail
      refine wp_region_order (fun i => ([SP.eq (.slice al l.length cap), SP.rx s4, SP.eq (.slice al l.length cap), SP.rx s4, SP.eq (.bool (true)), SP.eq (.bool (true)), SP.eq (.slice al l.length cap), SP.rx s5, SP.eq (.slice al l.length cap), SP.rx s5, SP.eq (.bool (true)), SP.eq (.bool (true)), SP.eq (.bool (true)), SP.eq (.agg #[.int .u8 x0, .int .u64 x1, .int .u64 x2, .int .u64 x3, .int .u64 x4, .slice xl xn xc]), SP.rx s6, SP.eq (.agg #[.int .u8 y0, .int .u64 y1, .int .u64 y2, .int .u64 y3, .int .u64 y4, .slice yl yn yc]), SP.eq (.bool (true)), SP.eq (.bool (true)), SP.eq (.bool (true)), SP.eq (.bool (true)), SP.eq (.bool (true)), SP.eq (.bool (true))] : List SP).getD i SP.free) (by kernel_rfl) (by kernel_rfl) ⟨?_, ?_, ?_, ?_, ?_, ?_, ?_, ?_, ?_, ?_, ?_, ?_, ?_, ?_, ?_, ?_, ?_, ?_, ?_, ?_, ?_, ?_, trivial⟩ ?_
      · intro a x K out get hb hK
        rw [if_pos (wanted_none rfl)]
        have o0 : a.tmps[0]? = some (.slice al l.length cap) := out 0 (by kernel_rfl)
        clear out get
        go_simp
        exact hK _ _ rfl (Below.refl _ _)
      · intro a x K out get hb hK
        rw [if_pos (wanted_none rfl)]
        obtain ⟨y19, hy19, rfl⟩ := get 0 _ _ rfl rfl (by kernel_rfl)
        clear out get
        go_simp
        refine (K4.out x hb).mono ?_
        rintro e w2 ⟨v2, rfl, hv2, hb2⟩
        exact hK _ _ (RxV.of hv2) hb2
      · intro a x K out get hb hK
        rw [if_pos (wanted_none rfl)]
        have o0 : a.tmps[0]? = some (.slice al l.length cap) := out 0 (by kernel_rfl)
        clear out get
        go_simp
        exact hK _ _ rfl (Below.refl _ _)
      · intro a x K out get hb hK
        rw [if_pos (wanted_none rfl)]
        obtain ⟨y21, hy21, rfl⟩ := get 2 _ _ rfl rfl (by kernel_rfl)
        clear out get
        go_simp
        refine (M4.out x hb).mono ?_
        rintro e w2 ⟨v2, rfl, hv2, hb2⟩
        exact hK _ _ (RxV.of hv2) hb2
      · intro a x K out get hb hK
        rw [if_pos (wanted_none rfl)]
        obtain ⟨y20, hy20, ⟨aq0, aq1, aq2, aq3, aq4, aql, aqn, aqc, rfl, hr20⟩⟩ := get 1 _ _ rfl rfl (by kernel_rfl)
        obtain ⟨y22, hy22, ⟨bq0, bq1, bq2, bq3, bq4, bql, bqn, bqc, rfl, hr22⟩⟩ := get 3 _ _ rfl rfl (by kernel_rfl)
        clear out get
        go_simp
        refine (KS4.out _ _ _ _ x hr20 hr22).mono ?_
        rintro e w2 ⟨rfl, hb2⟩
        exact hK _ _ rfl hb2
      · intro a x K out get hb hK
        rw [if_pos (wanted_none rfl)]
        obtain ⟨y23, hy23, rfl⟩ := get 4 _ _ rfl rfl (by kernel_rfl)
        clear out get
        go_simp
        exact hK _ _ rfl (Below.refl _ _)
      · intro a x K out get hb hK
        obtain ⟨yg, hyg, rfl⟩ := get 5 _ _ rfl rfl (by kernel_rfl)
        rw [if_pos (by rw [wanted_bool rfl rfl rfl hyg]; rfl)]
        clear hyg
        have o0 : a.tmps[0]? = some (.slice al l.length cap) := out 0 (by kernel_rfl)
        clear out get
        go_simp
        exact hK _ _ rfl (Below.refl _ _)
      · intro a x K out get hb hK
        obtain ⟨yg, hyg, rfl⟩ := get 5 _ _ rfl rfl (by kernel_rfl)
        rw [if_pos (by rw [wanted_bool rfl rfl rfl hyg]; rfl)]
        clear hyg
        obtain ⟨y25, hy25, rfl⟩ := get 6 _ _ rfl rfl (by kernel_rfl)
        clear out get
        go_simp
        refine (K5.out x hb).mono ?_
        rintro e w2 ⟨v2, rfl, hv2, hb2⟩
        exact hK _ _ (RxV.of hv2) hb2
      · intro a x K out get hb hK
        obtain ⟨yg, hyg, rfl⟩ := get 5 _ _ rfl rfl (by kernel_rfl)
        rw [if_pos (by rw [wanted_bool rfl rfl rfl hyg]; rfl)]
        clear hyg
        have o0 : a.tmps[0]? = some (.slice al l.length cap) := out 0 (by kernel_rfl)
        clear out get
        go_simp
        exact hK _ _ rfl (Below.refl _ _)
      · intro a x K out get hb hK
        obtain ⟨yg, hyg, rfl⟩ := get 5 _ _ rfl rfl (by kernel_rfl)
        rw [if_pos (by rw [wanted_bool rfl rfl rfl hyg]; rfl)]
        clear hyg
        obtain ⟨y27, hy27, rfl⟩ := get 8 _ _ rfl rfl (by kernel_rfl)
        clear out get
        go_simp
        refine (M5.out x hb).mono ?_
        rintro e w2 ⟨v2, rfl, hv2, hb2⟩
        exact hK _ _ (RxV.of hv2) hb2
      · intro a x K out get hb hK
        obtain ⟨yg, hyg, rfl⟩ := get 5 _ _ rfl rfl (by kernel_rfl)
        rw [if_pos (by rw [wanted_bool rfl rfl rfl hyg]; rfl)]
        clear hyg
        obtain ⟨y26, hy26, ⟨cq0, cq1, cq2, cq3, cq4, cql, cqn, cqc, rfl, hr26⟩⟩ := get 7 _ _ rfl rfl (by kernel_rfl)
        obtain ⟨y28, hy28, ⟨dq0, dq1, dq2, dq3, dq4, dql, dqn, dqc, rfl, hr28⟩⟩ := get 9 _ _ rfl rfl (by kernel_rfl)
        clear out get
        go_simp
        refine (KS5.out _ _ _ _ x hr26 hr28).mono ?_
        rintro e w2 ⟨rfl, hb2⟩
        exact hK _ _ rfl hb2
      · intro a x K out get hb hK
        rw [if_pos (wanted_none rfl)]
        obtain ⟨y24, hy24, rfl⟩ := get 5 _ _ rfl rfl (by kernel_rfl)
        obtain ⟨y29, hy29, rfl⟩ := get 10 _ _ rfl rfl (by kernel_rfl)
        clear out get
        go_simp
        exact hK _ _ rfl (Below.refl _ _)
      · intro a x K out get hb hK
        rw [if_pos (wanted_none rfl)]
        obtain ⟨y30, hy30, rfl⟩ := get 11 _ _ rfl rfl (by kernel_rfl)
        clear out get
        go_simp
        exact hK _ _ rfl (Below.refl _ _)
      · intro a x K out get hb hK
        obtain ⟨yg, hyg, rfl⟩ := get 12 _ _ rfl rfl (by kernel_rfl)
        rw [if_pos (by rw [wanted_bool rfl rfl rfl hyg]; rfl)]
        clear hyg
        have o3 : a.tmps[3]? = some (.pointer (some ⟨w.heap.size, 0, none⟩)) := out 3 (by kernel_rfl)
        obtain ⟨c0, c1, c2, c3, c4, c5, -⟩ := CX.out x hb
        clear out get
        go_simp
        exact hK _ _ rfl (Below.refl _ _)
      · intro a x K out get hb hK
        obtain ⟨yg, hyg, rfl⟩ := get 12 _ _ rfl rfl (by kernel_rfl)
        rw [if_pos (by rw [wanted_bool rfl rfl rfl hyg]; rfl)]
        clear hyg
        obtain ⟨y32, hy32, rfl⟩ := get 13 _ _ rfl rfl (by kernel_rfl)
        clear out get
        go_simp
        refine (K6.out x hb).mono ?_
        rintro e w2 ⟨v2, rfl, hv2, hb2⟩
        exact hK _ _ (RxV.of hv2) hb2
      · intro a x K out get hb hK
        obtain ⟨yg, hyg, rfl⟩ := get 12 _ _ rfl rfl (by kernel_rfl)
        rw [if_pos (by rw [wanted_bool rfl rfl rfl hyg]; rfl)]
        clear hyg
        have o5 : a.tmps[5]? = some (.pointer (some ⟨w2.heap.size, 0, none⟩)) := out 5 (by kernel_rfl)
        obtain ⟨c0, c1, c2, c3, c4, c5, -⟩ := CY.out x hb
        clear out get
        go_simp
        exact hK _ _ rfl (Below.refl _ _)
      · intro a x K out get hb hK
        obtain ⟨yg, hyg, rfl⟩ := get 12 _ _ rfl rfl (by kernel_rfl)
        rw [if_pos (by rw [wanted_bool rfl rfl rfl hyg]; rfl)]
        clear hyg
        obtain ⟨y33, hy33, ⟨eq0, eq1, eq2, eq3, eq4, eql, eqn, eqc, rfl, hr33⟩⟩ := get 14 _ _ rfl rfl (by kernel_rfl)
        obtain ⟨y34, hy34, rfl⟩ := get 15 _ _ rfl rfl (by kernel_rfl)
        clear out get
        go_simp
        refine (KS6.out _ _ _ _ x hr33 (HRY.out x hb)).mono ?_
        rintro e w2 ⟨rfl, hb2⟩
        exact hK _ _ rfl hb2
      · intro a x K out get hb hK
        rw [if_pos (wanted_none rfl)]
        obtain ⟨y31, hy31, rfl⟩ := get 12 _ _ rfl rfl (by kernel_rfl)
        obtain ⟨y35, hy35, rfl⟩ := get 16 _ _ rfl rfl (by kernel_rfl)
        clear out get
        go_simp
        exact hK _ _ rfl (Below.refl _ _)
      · intro a x K out get hb hK
        rw [if_pos (wanted_none rfl)]
        obtain ⟨y36, hy36, rfl⟩ := get 17 _ _ rfl rfl (by kernel_rfl)
        clear out get
        go_simp
        exact hK _ _ rfl (Below.refl _ _)
      · intro a x K out get hb hK
        obtain ⟨yg, hyg, rfl⟩ := get 18 _ _ rfl rfl (by kernel_rfl)
        rw [if_pos (by rw [wanted_bool rfl rfl rfl hyg]; rfl)]
        clear hyg
        clear out get
        go_simp
        refine (KA.out x).mono ?_
        rintro e w2 ⟨rfl, hb2⟩
        exact hK _ _ rfl hb2
      · intro a x K out get hb hK
        rw [if_pos (wanted_none rfl)]
        obtain ⟨y37, hy37, rfl⟩ := get 18 _ _ rfl rfl (by kernel_rfl)
        obtain ⟨y38, hy38, rfl⟩ := get 19 _ _ rfl rfl (by kernel_rfl)
        clear out get
        go_simp
        exact hK _ _ rfl (Below.refl _ _)
      · intro a x K out get hb hK
        rw [if_pos (wanted_none rfl)]
        obtain ⟨y39, hy39, rfl⟩ := get 20 _ _ rfl rfl (by kernel_rfl)
        clear out get
        go_simp
        exact hK _ _ rfl (Below.refl _ _)
      refine ao_fin (isD := fun s => (decide (19 ≤ s) && decide (s ≤ 39)) || decide (s = 4)) (by kernel_rfl) ?_
      intro f x hv hb
      have h4 : f 4 = _ := hv 21 _ _ rfl rfl
      have HB := Lib.hid (WB.out x hb)
      clear hv hb
      simp only [frm]
      simp
      rw [h4]
      generalize f 19 = u19 at *
      generalize f 20 = u20 at *
      generalize f 21 = u21 at *
      generalize f 22 = u22 at *
      generalize f 23 = u23 at *
      generalize f 24 = u24 at *
      generalize f 25 = u25 at *
      generalize f 26 = u26 at *
      generalize f 27 = u27 at *
      generalize f 28 = u28 at *
      generalize f 29 = u29 at *
      generalize f 30 = u30 at *
      generalize f 31 = u31 at *
      generalize f 32 = u32 at *
      generalize f 33 = u33 at *
      generalize f 34 = u34 at *
      generalize f 35 = u35 at *
      generalize f 36 = u36 at *
      generalize f 37 = u37 at *
      generalize f 38 = u38 at *
      generalize f 39 = u39 at *
      clear h4 f
      go_wp2
      go_ret
      exact ⟨rfl, HB.out⟩
end Go.Proofs.YtfmdcnfniimkoaaGreat
