/- Lemmas of mine, merged: NormL, NormQ, NormR, NormS, NormT, NormIsW, NormKeepsW, NormWordsW. -/
import Derived.Deep.CutRange
import Derived.Test.YtfmdcnfniimkoaaGreatNormGAll
import Derived.Test.YtfmdcnfniimkoaaGreatOrdOAll
import Derived.Test.YtfmdcnfniimkoaaGreatRexEAll
import Derived.Test.YtfmdcnfniimkoaaGreatRexIAll
import Derived.Test.YtfmdcnfniimkoaaGreatReadAAll
import Derived.Test.YtfmdcnfniimkoaaGreatNullHAll
import Derived.Test.YtfmdcnfniimkoaaGreatSetAAll
import Derived.Laws.DeepStrings4
/- norm.alt. Made by wip/r8-g.py. -/
namespace Go.Proofs.YtfmdcnfniimkoaaGreat
open Go.RowKit
theorem onceR_len (l : List Rx) : (onceR l).length ≤ l.length := by
  have := onceFrom_length l []
  simpa [onceR] using this
theorem gathP_len (p : List Ex) : (gathP p).length ≤ p.length + 1 := by
  have h : (bareL p).length ≤ p.length := List.length_filter_le _ _
  unfold gathP
  split
  · omega
  · simp only [List.length_append, List.length_singleton]; omega
theorem ofR_some {s : Ws} (h : s ≠ Ws.nil) : ofR s = (Ex.cls s).rx := by
  unfold ofR
  rw [if_neg (fun e => h (sameW_iff.1 e))]
  rfl
def CutP (B : Nat) (X : Nat → Prop) (o : Nat) (ps : List Ex) (W1 w : World) : Prop := PV B X (Lo B) o ps w ∧ Below B W1 w
/-- Sorted, each once, then Or: call by call. -/
theorem last_any {ok : Nat → Prop} (ps : List Ex) (al : Option Addr) (cap : Nat) (w : World) (hl : ps.length ≤ 1000000) (h : RowAt ok w al (ps.map Ex.rx)) :
    Calls Tryz.prog 76 #[.slice al ps.length cap] w fun x w3 => ∃ (n3 : Nat) (al3 : Option Addr), x = .returned (.slice al3 n3 n3) ∧ Below w.heap.size w w3 ∧
      Calls Tryz.prog 75 #[.slice al3 n3 n3] w3 fun x w4 => ∃ (n4 : Nat) (al4 : Option Addr), x = .returned (.slice al4 n4 n4) ∧ Below w3.heap.size w3 w4 ∧
        Calls Tryz.prog 71 #[.slice al4 n4 n4] w4 (NewPost (foldA (canE ps)).rx w4) := by
  have K := sort_any (ps.map Ex.rx) al cap w (by rw [List.length_map]; exact hl) h
  rw [List.length_map] at K
  refine K.mono ?_
  rintro x w3 ⟨al3, rfl, hr3, hb3⟩
  refine ⟨_, al3, rfl, hb3, ?_⟩
  have hS : (sortR (ps.map Ex.rx)).length ≤ 1000000 := by rw [sortR_length, List.length_map]; exact hl
  refine (once_any (sortR (ps.map Ex.rx)) al3 _ w3 hS hr3).mono ?_
  rintro x w4 ⟨al4, rfl, hr4, hb4⟩
  refine ⟨_, al4, rfl, hb4, ?_⟩
  rw [foldA_rx, canE_map]
  exact or_any _ al4 _ w4 (Nat.lt_of_le_of_lt (onceR_len _) (by omega)) hr4
set_option maxRecDepth 100000 in
set_option maxHeartbeats 8000000 in
theorem alt_any (ok : Nat → Prop) (l : List Ex) (al0 : Option Addr) (cap : Nat) (w : World) (hlen : l.length < 2199023255552) (hM : (partL 5 l).length ≤ 900000) (hR : RowAt ok w al0 (l.map Ex.rx)) :
    Calls Tryz.prog 44 #[.slice al0 l.length cap] w (NewPost (altE l).rx w) := by
  obtain ⟨W1, hW1⟩ : ∃ x, x = ((w.alloc zR).alloc (.cells #[.slice none 0 0] 25)).alloc (.cells #[.int .u64 0, .int .u64 0, .int .u64 0, .int .u64 0] 24) := ⟨_, rfl⟩
  have hb1 : Below w.heap.size w W1 := by rw [hW1]; exact al3 w _ _ _
  obtain ⟨hz, ho, hc, hsz⟩ := three_new w zR (.cells #[.slice none 0 0] 25) (.cells #[.int .u64 0, .int .u64 0, .int .u64 0, .int .u64 0] 24)
  rw [← hW1] at hz ho hc hsz
  have hB : w.heap.size + 1 ≤ W1.heap.size := by omega
  have hR1 : RowAt (Lo (w.heap.size + 1)) W1 al0 (l.map Ex.rx) := (hR.imp (ok' := Lo (w.heap.size + 1)) fun b hb _ => Nat.lt_succ_of_lt hb).below hb1
  obtain ⟨X, hX⟩ : ∃ X : Nat → Prop, X = fun b => b = w.heap.size + 1 ∨ b = w.heap.size + 2 := ⟨_, rfl⟩
  have hXB : ∀ x, X x → w.heap.size + 1 ≤ x := fun x h => by rw [hX] at h; rcases h with rfl | rfl <;> omega
  have hXo : X (w.heap.size + 1) := by rw [hX]; exact .inl rfl
  have hXc : X (w.heap.size + 2) := by rw [hX]; exact .inr rfl
  have hXl : ∀ x, X x → x < W1.heap.size := fun x h => by rw [hX] at h; rcases h with rfl | rfl <;> omega
  have hT : Tell 1000000 (w.heap.size + 1) W1 73 #[.pointer (some ⟨w.heap.size + 2, 0, none⟩), .pointer (some ⟨w.heap.size + 1, 0, none⟩)] (AltI (w.heap.size + 1) X (w.heap.size + 1) (w.heap.size + 2)) (fun _ => True) := by
    refine ⟨fun v W => rfl, fun done W W' h hb => ⟨h.1.below hb, h.2.1.below hb h.2.1.lt, h.2.2⟩, fun done e v W hd hI hB' _ hre => ?_⟩
    exact alt1_any hXo hXc (by omega) hXB (Nat.le_trans hB hB'.size) hd hI hre
  have K0 := each_any (k := 5) (.inr rfl) hB hT (Ex.sum l) l al0 cap [] W1 (Nat.le_refl _) hlen hR1 (fun _ _ => trivial) (by simp only [List.nil_append]; omega) ⟨PV.start ho hXl, hc, Ws.nil_ok⟩ (Below.refl _ _)
  simp only [List.nil_append] at K0
  rw [altE_part]
  generalize partL 5 l = p at *
  have KF := Lib.hid fun al cap W (h : RowAt (fun b => Lo (w.heap.size + 1) b ∨ w.heap.size + 1 ≤ b) W al ((gathP p).map Ex.rx)) => last_any (gathP p) al cap W (Nat.le_trans (gathP_len p) (by omega)) h
  generalize foldA (canE (gathP p)) = res at *
  have HG := Lib.hid (show gathP p = if setE p = Ws.nil then bareL p else bareL p ++ [.cls (setE p)] from rfl)
  have hbl : (bareL p).length ≤ 900000 := Nat.le_trans (List.length_filter_le _ _) hM
  have K := Lib.hid K0
  rw [show (((5 : Nat) : Int)) = 5 from rfl] at K
  have HB1 := Lib.hid hb1
  have HW1 := Lib.hid hW1
  have HZ := Lib.hid fun w2 (h : Below (w.heap.size + 1) W1 w2) => (h.block _ (Nat.lt_succ_self _)).trans hz
  have hsz2 : w.heap.size < W1.heap.size := by omega
  have HOK := Lib.hid (show ∀ b, Lo (w.heap.size + 1) b → ¬ X b from fun b h hb => by have := hXB b hb; have : b < w.heap.size + 1 := h; omega)
  have hBo : w.heap.size + 1 ≤ w.heap.size + 1 := Nat.le_refl _
  clear hR hR1 hT hb1 ho hc hz hX hXB hXl K0
  go_enter Tryz.func44, Tryz.ntmps44
  go_wp2_with fail
  rw [← HW1.out]
  refine K.out.mono ?_
  rintro x w2 ⟨rfl, hI, hb2⟩
  obtain ⟨hP, hV, hsok⟩ := hI
  obtain ⟨⟨ta, tb, tc, td⟩, ht⟩ : ∃ t, t = setE p := ⟨_, rfl⟩
  rw [← ht] at hV hsok HG
  obtain ⟨⟨t0, t1, t2, t3⟩, -⟩ := hV.all
  have HBC := Lib.hid hb2
  have HP := Lib.hid hP
  have HVB := Lib.hid hV
  have HSK := Lib.hid hsok
  clear hP hV hsok hb2 K HW1 ht
  by_cases hn : (⟨ta, tb, tc, td⟩ : Ws) = Ws.nil
  · rw [hn, if_pos rfl] at HG
    injection hn with n0 n1 n2 n3
    subst n0 n1 n2 n3
    have HPV : Hid (PV (w.heap.size + 1) X (Lo (w.heap.size + 1)) (w.heap.size + 1) (gathP p) w2) := Lib.hid (by rw [HG.out]; exact HP.out)
    have EQ := eqW_yes Ws.nil
    rw [nil_v] at EQ
    clear HG HP
    generalize gathP p = ps at *
    obtain ⟨al2, cap2, hv, hcp, hr⟩ := HPV.out.out
    obtain ⟨c0, -⟩ := var_cell hv
    have HZ2 := Lib.hid (HZ.out w2 HBC.out)
    have HB2 := Lib.hid (HB1.out.trans (HBC.out.mono (Nat.le_succ _)))
    have hs2 : w.heap.size < w2.heap.size := Nat.lt_of_lt_of_le hsz2 HBC.out.size
    have KS := Lib.hid (KF.out al2 cap2 w2 hr)
    clear hv hcp hr
    go_wp2_with fail
    refine KS.out.mono ?_
    rintro x w3 ⟨n3, al3, rfl, hb3, K3⟩
    have K3 := Lib.hid K3
    have hz3 := (hb3.block _ hs2).trans HZ2.out
    have HZ3 := Lib.hid hz3
    have HB3 := Lib.hid (HB2.out.trans (hb3.mono HB2.out.size))
    have hs3 : w.heap.size < w3.heap.size := Nat.lt_of_lt_of_le hs2 hb3.size
    clear hb3 hz3 c0 KS
    go_wp2_with fail
    refine K3.out.mono ?_
    rintro x w4 ⟨n4, al4, rfl, hb4, K4⟩
    have K4 := Lib.hid K4
    have hz4 := (hb4.block _ hs3).trans HZ3.out
    have HZ4 := Lib.hid hz4
    have HB4 := Lib.hid (HB3.out.trans (hb4.mono HB3.out.size))
    have hs4 : w.heap.size < w4.heap.size := Nat.lt_of_lt_of_le hs3 hb4.size
    clear hb4 hz4 K3
    go_wp2_with fail
    refine K4.out.mono ?_
    rintro x w5 ⟨v1, rfl, hv1, hb5⟩
    obtain ⟨p0, p1, p2, p3, p4, pl, pn, pc, rfl⟩ := cells_re hv1
    have hz5 := (hb5.block _ hs4).trans HZ4.out
    have HV := Lib.hid hv1
    have HZ5 := Lib.hid hz5
    have HB5 := Lib.hid (HB4.out.trans (hb5.mono HB4.out.size))
    obtain ⟨d0, d1, d2, d3, d4, d5, f0, f1, f2, f3, f4, f5⟩ := cellsR hz5
    clear hv1 hb5 hz5 K4
    go_wp2
    exact ret_new HZ5.out HV.out hs4 HB5.out (Nat.le_refl _) Tryz.results44 rfl rfl
  · rw [if_neg hn] at HG
    have EQ := eqW_no hn
    rw [nil_v] at EQ
    simp only [Ws.v] at EQ
    have CE := Lib.hid (show ∀ x w3, PushPost (w.heap.size + 1) X (Lo (w.heap.size + 1)) (w.heap.size + 1) (bareL p ++ [.cls ⟨ta, tb, tc, td⟩]) w2 x w3 → CutP (w.heap.size + 1) X (w.heap.size + 1) (gathP p) W1 w3 from fun x w3 h => ⟨by rw [HG.out]; exact h.2.1, HBC.out.trans h.2.2.1⟩)
    have KOF := Lib.hid fun W => ofX_any ⟨ta, tb, tc, td⟩ W HSK.out
    rw [ofR_some hn] at KOF
    simp only [Ws.v] at KOF
    clear HG
    generalize gathP p = qs at *
    generalize bareL p = ps at *
    obtain ⟨v, xs, h1, hown, h3, h4⟩ := HP.out
    obtain ⟨al, vc, rfl⟩ : ∃ al c, v = .slice al ps.length c := own_form hown
    obtain ⟨i0, z0, hi0, hz0, hz1, hz2, hz3⟩ := infoR2
    have hz2' := Lib.hid hz2
    have HX : X (w.heap.size + 1) := hXo
    have HOWN := Lib.hid hown
    have H3 := Lib.hid h3
    have H4 := Lib.hid h4
    have hBw : w.heap.size + 1 ≤ w2.heap.size := Nat.le_trans hB HBC.out.size
    have V0 := Lib.hid h1
    clear hz2 hown h3 h4 h1 HP
    go_upto_region 5 with fail
    clear EQ t0 t1 t2 t3
    go_cut [2] from 11 to 17 (fun v wx => v = .pointer (some ⟨w.heap.size, 0, none⟩) ∧ CutP (w.heap.size + 1) X (w.heap.size + 1) qs W1 wx)
    case first =>
      have WB := Lib.hid fun x (hx : Below w2.heap.size w2 x) => hx
      have VO := Lib.hid fun x (hx : Below w2.heap.size w2 x) => (hx.block _ (H4.out _ HX).1).trans V0.out
      have CB := Lib.hid fun x (hx : Below w2.heap.size w2 x) => (HVB.out.below hx HVB.out.lt).all
      refine wp_region_orderA 5 (fun i => ([SP.eq (.slice al ps.length vc), SP.eq (.agg #[.int .u64 ta, .int .u64 tb, .int .u64 tc, .int .u64 td]), SP.ex (fun b => Lo (w.heap.size + 1) b ∧ (Value.slice al ps.length vc).ownBlock ≠ some b) (.cls ⟨ta, tb, tc, td⟩), SP.eq (.int .i64 ps.length), SP.zero] : List SP).getD i SP.free) (fun _ => false) (fun _ _ _ h => by cases h) (by kernel_rfl) (by kernel_rfl) ⟨?_, ?_, ?_, ?_, ?_, trivial⟩ ?_
      · intro a x K out get hb hK
        rw [if_pos (wanted_none rfl)]
        have o3 : a.tmps[3]? = some (.pointer (some ⟨w.heap.size + 1, 0, none⟩)) := out 3 (by kernel_rfl)
        obtain ⟨c0, -⟩ := var_cell (VO.out x hb)
        clear out get
        go_simp
        exact hK _ _ rfl (Below.refl _ _) (fun h => by cases h)
      · intro a x K out get hb hK
        rw [if_pos (wanted_none rfl)]
        have o4 : a.tmps[4]? = some (.pointer (some ⟨w.heap.size + 1 + 1, 0, none⟩)) := out 4 (by kernel_rfl)
        obtain ⟨⟨c0, c1, c2, c3⟩, -⟩ := CB.out x hb
        clear out get
        go_simp
        exact hK _ _ rfl (Below.refl _ _) (fun h => by cases h)
      · intro a x K out get hb hK
        rw [if_pos (wanted_none rfl)]
        obtain ⟨y12, hy12, rfl⟩ := get 1 _ _ rfl rfl (by kernel_rfl)
        clear out get
        go_simp
        refine (KOF.out x).mono ?_
        rintro e w2 ⟨v2, rfl, hv2, hb2⟩
        exact hK _ _ (ExV.of (leaf_any w2 hv2) fun _ _ h => h) hb2 (fun h => by cases h)
      · intro a x K out get hb hK
        rw [if_pos (wanted_none rfl)]
        obtain ⟨y11, hy11, rfl⟩ := get 0 _ _ rfl rfl (by kernel_rfl)
        clear out get
        go_simp
        exact hK _ _ rfl (Below.refl _ _) (fun h => by cases h)
      · intro a x K out get hb hK
        rw [if_pos (wanted_none rfl)]
        clear out get
        go_simp
        exact hK _ _ ⟨_, rfl, blk_new _ _⟩ (bel_al _ _) (fun h => by cases h)
      refine ao_finA (isD := fun s => decide (11 ≤ s) && decide (s ≤ 17)) (by kernel_rfl) ?_
      intro f x hv hne hb
      clear hne
      have e11 : f 11 = _ := hv 0 _ _ (by decide) rfl rfl
      have e14 : f 14 = _ := hv 3 _ _ (by decide) rfl rfl
      obtain ⟨p0, p1, p2, p3, p4, pl, pn, pc, e13, he⟩ := hv 2 _ _ (by decide) rfl rfl
      obtain ⟨gz, e15, hz⟩ := hv 4 _ _ (by decide) rfl rfl
      have hbx := WB.out x hb
      have hox := VO.out x hb
      have HE := Lib.hid he
      have hownx := ownR_below HOWN.out hbx
      have hBx := Nat.le_trans hBw hbx.size
      clear hv he
      generalize hF : (Act.mk (List.toArray (frm f _ 0 _)) _) = fr
      simp [frm] at hF
      rw [e11, e14, e13, e15] at hF
      subst hF
      generalize f 12 = u12 at *
      generalize f 16 = u16 at *
      generalize f 17 = u17 at *
      clear e11 e14 e13 e15 f
      refine wp_end (n := 5) (by kernel_rfl) rfl rfl rfl rfl ?_
      refine step_append_lies _ rfl (.tmp 11) (.tmp 15) 25 rfl (w.heap.size + 1) 27 i0 z0 6 64 Tryz.underlying25 hi0 hz0 hz1 hz2'.out hz3 (by decide) (.slice al ps.length vc) ps.length xs rfl hownx ⟨gz, 0, none⟩ 1 1 [.int .u8 0, .int .u64 0, .int .u64 0, .int .u64 0, .int .u64 0, .slice none 0 0] rfl rfl (zero_at hz) zero6_one (by decide) (by unfold maxLen; omega) (by omega) hBx _ rfl ?_
      intro g' cap' w2 hown hgrow hat hlt
      obtain ⟨⟨n0, n1, n2, n3, n4, n5⟩, m0, m1, m2, m3, m4, m5⟩ := new6 HOWN.out.1 hown
      have hne : ¬ w.heap.size + 1 = g' := fun e => by
        rcases hat with h | h
        · exact (H4.out _ HX).2 (by rw [h, e])
        · have := (H4.out _ HX).1; have := hbx.size; omega
      have hne' : ¬ g' = w.heap.size + 1 := fun e => hne e.symm
      have hvo := (hgrow.block _ (Nat.lt_of_lt_of_le (H4.out _ HX).1 hbx.size) fun e => (H4.out _ HX).2 e.symm).trans hox
      obtain ⟨v0c, v0f⟩ := var_cell hvo
      have hidx : (ps.length : Int) < (ps.length : Int) + 1 := by omega
      have HOW := Lib.hid hown
      have HGR := Lib.hid hgrow
      have HAT := Lib.hid hat
      have HBX := Lib.hid hbx
      have HVO := Lib.hid hvo
      clear hown hgrow hat hbx hvo hox hz hownx hBx hb
      refine ⟨?_, ?_⟩
      · rw [if_pos (wanted_none rfl)]
        go_simp
        refine ⟨?_, ?_⟩
        · go_wp2_with fail
          go_meet
          exact ⟨rfl, CE.out _ _ (push_closeA HX HOK.out hBo hBw HOWN.out H3.out H4.out HBX.out HE.out HOW.out HGR.out HAT.out HVO.out hne)⟩
        · go_wp2_with fail
          go_meet
          exact ⟨rfl, CE.out _ _ (push_closeB HX HOK.out hBo hBw HOWN.out H3.out H4.out HBX.out HE.out HOW.out HGR.out HAT.out HVO.out hne)⟩
      · go_wp2_with fail
        go_meet
        exact ⟨rfl, CE.out _ _ (push_closeB HX HOK.out hBo hBw HOWN.out H3.out H4.out HBX.out HE.out HOW.out HGR.out HAT.out HVO.out hne)⟩
    case rest =>
      obtain ⟨rfl, hcp0⟩ := hcut
      have HPV := Lib.hid hcp0.1
      have HBD := Lib.hid hcp0.2
      clear hcp0 HBC HVB HOWN H3 H4 V0 CE KOF
      obtain ⟨al2, cap2, hv, hcp, hr⟩ := HPV.out.out
      obtain ⟨c0, -⟩ := var_cell hv
      have HZ2 := Lib.hid (HZ.out wc HBD.out)
      have HB2 := Lib.hid (HB1.out.trans (HBD.out.mono (Nat.le_succ _)))
      have hs2 : w.heap.size < wc.heap.size := Nat.lt_of_lt_of_le hsz2 HBD.out.size
      have KS := Lib.hid (KF.out al2 cap2 wc hr)
      clear hv hcp hr
      go_wp2_with fail
      refine KS.out.mono ?_
      rintro x w3 ⟨n3, al3, rfl, hb3, K3⟩
      have K3 := Lib.hid K3
      have hz3 := (hb3.block _ hs2).trans HZ2.out
      have HZ3 := Lib.hid hz3
      have HB3 := Lib.hid (HB2.out.trans (hb3.mono HB2.out.size))
      have hs3 : w.heap.size < w3.heap.size := Nat.lt_of_lt_of_le hs2 hb3.size
      clear hb3 hz3 c0 KS
      go_wp2_with fail
      refine K3.out.mono ?_
      rintro x w4 ⟨n4, al4, rfl, hb4, K4⟩
      have K4 := Lib.hid K4
      have hz4 := (hb4.block _ hs3).trans HZ3.out
      have HZ4 := Lib.hid hz4
      have HB4 := Lib.hid (HB3.out.trans (hb4.mono HB3.out.size))
      have hs4 : w.heap.size < w4.heap.size := Nat.lt_of_lt_of_le hs3 hb4.size
      clear hb4 hz4 K3
      go_wp2_with fail
      refine K4.out.mono ?_
      rintro x w5 ⟨v1, rfl, hv1, hb5⟩
      obtain ⟨p0, p1, p2, p3, p4, pl, pn, pc, rfl⟩ := cells_re hv1
      have hz5 := (hb5.block _ hs4).trans HZ4.out
      have HV := Lib.hid hv1
      have HZ5 := Lib.hid hz5
      have HB5 := Lib.hid (HB4.out.trans (hb5.mono HB4.out.size))
      obtain ⟨d0, d1, d2, d3, d4, d5, f0, f1, f2, f3, f4, f5⟩ := cellsR hz5
      clear hv1 hb5 hz5 K4
      go_wp2
      exact ret_new HZ5.out HV.out hs4 HB5.out (Nat.le_refl _) Tryz.results44 rfl rfl
end Go.Proofs.YtfmdcnfniimkoaaGreat
/- norm.star, normal. -/
namespace Go.Proofs.YtfmdcnfniimkoaaGreat
open Go.RowKit
set_option maxHeartbeats 4000000 in
set_option maxRecDepth 100000 in
theorem nstar_any (a : Ex) (ok : Nat → Prop) (v : Value) (w : World) (h : ReAt ok w v a.rx) : Calls Tryz.prog 45 #[v] w (ExPost ok (starE a) w) := by
  obtain ⟨ka, ⟨sa, sb, sc, sd⟩, ksa, hsa⟩ := rx_form a
  have HA := Lib.hid h
  rw [hsa] at h
  obtain ⟨_, _, al, cap, rfl, hcap, _, hrow⟩ := h
  simp only at HA ⊢
  have k1a := kind_emp hsa
  have k2a := kind_eps hsa
  have k6a := kind_star hsa
  have KB := Lib.hid fun W => then_any (ok := fun _ => True) [] none 0 W (by decide) (.inl rfl)
  rw [show foldR 4 2 [] = Ex.eps.rx from rfl, show ([] : List Rx).length = 0 from rfl] at KB
  have B := Lib.hid (Bn1.new w (.cells #[.int .u8 ka, .int .u64 sa, .int .u64 sb, .int .u64 sc, .int .u64 sd, .slice al ksa.length cap] 27))
  cases q1 : a.isEmp with
  | true =>
    rw [q1] at k1a
    rw [starE_bare (.inl q1)]
    clear q1 hrow hsa k2a k6a HA
    go_enter Tryz.func45, Tryz.ntmps45
    go_wp2_with fail
    refine (KB.out _).mono ?_
    rintro e w1 ⟨v1, rfl, hv1, hb1⟩
    obtain ⟨p0, p1, p2, p3, p4, pl, pn, pc, rfl⟩ := cells_re hv1
    have B1 := Lib.hid (B.out.go hb1)
    have HV := Lib.hid (leaf_any (ok' := okN ok w.heap.size) w1 hv1)
    clear hv1 hb1 B
    obtain ⟨c0, c1, c2, c3, c4, c5, f0, f1, f2, f3, f4, f5⟩ := cellsR B1.out.2.1
    go_wp2
    exact ret_ex (e := .eps) B1.out.2.1 HV.out B1.out.2.2 (by omega) Tryz.results45 rfl rfl
  | false =>
  rw [q1] at k1a
  cases q2 : a.isEps with
  | true =>
    rw [q2] at k2a
    rw [starE_bare (.inr q2)]
    clear q1 q2 hrow hsa k6a HA
    go_enter Tryz.func45, Tryz.ntmps45
    go_wp2_with fail
    refine (KB.out _).mono ?_
    rintro e w1 ⟨v1, rfl, hv1, hb1⟩
    obtain ⟨p0, p1, p2, p3, p4, pl, pn, pc, rfl⟩ := cells_re hv1
    have B1 := Lib.hid (B.out.go hb1)
    have HV := Lib.hid (leaf_any (ok' := okN ok w.heap.size) w1 hv1)
    clear hv1 hb1 B
    obtain ⟨c0, c1, c2, c3, c4, c5, f0, f1, f2, f3, f4, f5⟩ := cellsR B1.out.2.1
    go_wp2
    exact ret_ex (e := .eps) B1.out.2.1 HV.out B1.out.2.2 (by omega) Tryz.results45 rfl rfl
  | false =>
  rw [q2] at k2a
  cases q3 : a.isStar with
  | true =>
    rw [q3] at k6a
    rw [starE_star q3]
    clear q1 q2 q3 hrow hsa KB
    go_enter Tryz.func45, Tryz.ntmps45
    go_wp2
    exact ret_re (blk_at _ _ (by simp)) Tryz.results45 rfl rfl ⟨_, rfl, (HA.out.below (al2 w _ _)).imp fun _ _ h => Or.inl h, al2 w _ _⟩
  | false =>
    rw [q3] at k6a
    rw [starE_plain q1 q2 q3]
    have KM := Lib.hid fun W (hb : Below w.heap.size w W) => manyX_any a.rx _ W (HA.out.below hb)
    clear q1 q2 q3 hrow hsa KB HA
    go_enter Tryz.func45, Tryz.ntmps45
    go_wp2_with fail
    refine (KM.out _ B.out.2.2).mono ?_
    rintro e w1 ⟨v1, rfl, hv1, hb1⟩
    obtain ⟨p0, p1, p2, p3, p4, pl, pn, pc, rfl⟩ := cells_re hv1
    have B1 := Lib.hid (B.out.go hb1)
    have HV := Lib.hid (show ReAt (okN ok w.heap.size) w1 (.agg #[.int .u8 p0, .int .u64 p1, .int .u64 p2, .int .u64 p3, .int .u64 p4, .slice pl pn pc]) (Ex.star a).rx from hv1.imp fun b _ h => .inr (Nat.le_trans B.out.2.2.size h))
    clear hv1 hb1 B
    obtain ⟨c0, c1, c2, c3, c4, c5, f0, f1, f2, f3, f4, f5⟩ := cellsR B1.out.2.1
    go_wp2
    exact ret_ex (e := .star a) B1.out.2.1 HV.out B1.out.2.2 (by omega) Tryz.results45 rfl rfl
theorem sum_part (k : Nat) : ∀ e : Ex, Ex.sum (partE k e) ≤ e.size
  | .empty => by simp [partE, Ex.sum, Ex.size]
  | .eps => by simp [partE, Ex.sum, Ex.size]
  | .cls s => by simp [partE, Ex.sum, Ex.size]
  | .star a => by simp [partE, Ex.sum]
  | .seq a b => by
    have h1 := sum_part k a
    have h2 := sum_part k b
    unfold partE
    split
    · simp only [Ex.sum, List.map_append, List.sum_append, Ex.size] at *; omega
    · simp [Ex.sum]
  | .alt a b => by
    have h1 := sum_part k a
    have h2 := sum_part k b
    unfold partE
    split
    · simp only [Ex.sum, List.map_append, List.sum_append, Ex.size] at *; omega
    · simp [Ex.sum]
theorem sum_parts (k : Nat) (l : List Ex) : Ex.sum (partL k l) ≤ Ex.sum l := by
  induction l with
  | nil => simp [partL, Ex.sum]
  | cons e l ih =>
    have h := sum_part k e
    simp only [partL, List.flatMap_cons, Ex.sum, List.map_append, List.sum_append, List.map_cons, List.sum_cons] at *
    omega
theorem sum_nf (l : List Ex) : Ex.sum (l.map nfE) ≤ Ex.sum l := by
  induction l with
  | nil => simp [Ex.sum]
  | cons e l ih =>
    have h := nf_size e
    simp only [Ex.sum, List.map_cons, List.sum_cons] at *
    omega
theorem parts_len (k : Nat) (l : List Ex) : (partL k l).length ≤ Ex.sum l := by
  induction l with
  | nil => simp [partL]
  | cons e l ih =>
    have h := part_len k e
    simp only [partL, List.flatMap_cons, List.length_append, Ex.sum, List.map_cons, List.sum_cons] at *
    omega
theorem whole_len (k : Nat) (l : List Ex) : (partL k ((partL k l).map nfE)).length ≤ Ex.sum l :=
  Nat.le_trans (parts_len k _) (Nat.le_trans (sum_nf _) (sum_parts k l))
theorem leaf_nf {e : Ex} {k : Nat} {s : Ws} {ks : List Rx} (h : e.rx = .node k s ks) (h4 : e.isSeq = false) (h5 : e.isAlt = false) (h6 : e.isStar = false) : (nfE e).rx = .node k s [] := by
  cases e with
  | empty => rw [← show ks = [] from by simp only [Ex.rx] at h; injection h with _ _ h3; exact h3.symm, ← h]; rfl
  | eps => rw [← show ks = [] from by simp only [Ex.rx] at h; injection h with _ _ h3; exact h3.symm, ← h]; rfl
  | cls s => rw [← show ks = [] from by simp only [Ex.rx] at h; injection h with _ _ h3; exact h3.symm, ← h]; rfl
  | seq a b => cases h4
  | alt a b => cases h5
  | star a => cases h6
set_option maxHeartbeats 4000000 in
set_option maxRecDepth 100000 in
theorem normal_leaf {e : Ex} (h4 : e.isSeq = false) (h5 : e.isAlt = false) (h6 : e.isStar = false) {ok : Nat → Prop} (v : Value) (w : World) (h : ReAt ok w v e.rx) : Calls Tryz.prog 34 #[v] w (NewPost (nfE e).rx w) := by
  obtain ⟨ka, ⟨sa, sb, sc, sd⟩, ksa, hsa⟩ := rx_form e
  rw [hsa] at h
  obtain ⟨hk256, hsok, al, cap, rfl, hcap, _, hrow⟩ := h
  simp only
  rw [leaf_nf hsa h4 h5 h6]
  have k4a := kind_seq hsa
  have k5a := kind_alt hsa
  have k6a := kind_star hsa
  rw [h4] at k4a
  rw [h5] at k5a
  rw [h6] at k6a
  have HS := Lib.hid hsok
  clear hrow hcap hsa h4 h5 h6 hsok
  go_enter Tryz.func34, Tryz.ntmps34
  go_wp2
  exact ret_re (blk_at _ _ (by simp)) Tryz.results34 rfl rfl ⟨_, rfl, bareAt _ _ ka ⟨sa, sb, sc, sd⟩ hk256 HS.out, al2 w _ _⟩
set_option maxHeartbeats 8000000 in
set_option maxRecDepth 100000 in
theorem normal_step {N : Nat} (hN : N < 800000) (ih : NrmC N) : NrmC (N + 1) := by
  intro e hs hw ok v w h
  have h0 := h
  obtain ⟨ka, ⟨sa, sb, sc, sd⟩, ksa, hsa⟩ := rx_form e
  rw [hsa] at h
  obtain ⟨hk256, hsok, al, cap, rfl, hcap, _, hrow⟩ := h
  simp only at h0 ⊢
  have B := Lib.hid (Bn1.new w (.cells #[.int .u8 ka, .int .u64 sa, .int .u64 sb, .int .u64 sc, .int .u64 sd, .slice al ksa.length cap] 27))
  have IH := Lib.hid ih
  clear ih
  have k4a := kind_seq hsa
  have k5a := kind_alt hsa
  have k6a := kind_star hsa
  cases e with
  | seq a b =>
    simp only [Ex.rx] at hsa
    injection hsa with e1 e2 e3
    subst e1
    subst e3
    simp only [Ex.size] at hs
    have hsum : Ex.sum [a, b] < 900000 := by simp [Ex.sum]; omega
    obtain ⟨L, hL⟩ : ∃ L, L = (partL 4 [a, b]).map nfE := ⟨_, rfl⟩
    have hwl := Nat.lt_of_le_of_lt (whole_len 4 [a, b]) hsum
    have hpl := Nat.lt_of_le_of_lt (parts_len 4 [a, b]) hsum
    have KN := Lib.hid fun W (hb : Below w.heap.size w W) => normals_any (k := 4) IH.out (.inl rfl) ok [a, b] al cap W (fun x hx => by
      simp at hx
      rcases hx with rfl | rfl
      · exact ⟨by omega, hw.1⟩
      · exact ⟨by omega, hw.2⟩) (by simp) (by omega) (hrow.below hb)
    have KS := Lib.hid fun ok al cap W (h : RowAt ok W al (L.map Ex.rx)) => seq_any ok L al cap W (by have := parts_len 4 [a, b]; rw [hL, List.length_map]; omega) (by rw [hL]; omega) h
    rw [← hL] at KN
    have hnode := seq_node a b
    rw [← hL] at hnode
    rw [hnode] at KS
    rw [show ([a, b] : List Ex).length = 2 from rfl, show (((4 : Nat) : Int)) = 4 from rfl] at KN
    rw [show ([a.rx, b.rx] : List Rx).length = 2 from rfl, show (((4 : Nat) : Int)) = 4 from rfl] at B ⊢
    generalize nfE (.seq a b) = res at *
    clear h0 hL hnode hwl hpl hsum k4a k5a k6a hw hrow hcap hsok e2 IH hk256
    go_enter Tryz.func34, Tryz.ntmps34
    go_wp2_with fail
    refine (KN.out _ B.out.2.2).mono ?_
    rintro x w1 ⟨al2, cap2, rfl, hcp, hr, hb1⟩
    have B1 := Lib.hid (B.out.go hb1)
    have KS1 := Lib.hid (KS.out _ al2 cap2 w1 hr)
    clear hcp hr hb1 B KN KS
    go_wp2_with fail
    refine KS1.out.mono ?_
    rintro x w2 ⟨v1, rfl, hv1, hb2⟩
    obtain ⟨p0, p1, p2, p3, p4, pl, pn, pc, rfl⟩ := cells_re hv1
    have B2 := Lib.hid (B1.out.go hb2)
    have HV := Lib.hid hv1
    have hlt := (Array.getElem?_eq_some_iff.1 B1.out.2.1).1
    clear hv1 hb2 KS1 B1
    obtain ⟨c0, c1, c2, c3, c4, c5, f0, f1, f2, f3, f4, f5⟩ := cellsR B2.out.2.1
    go_wp2
    exact ret_new B2.out.2.1 HV.out hlt B2.out.2.2 (by omega) Tryz.results34 rfl rfl
  | alt a b =>
    simp only [Ex.rx] at hsa
    injection hsa with e1 e2 e3
    subst e1
    subst e3
    simp only [Ex.size] at hs
    have hsum : Ex.sum [a, b] < 900000 := by simp [Ex.sum]; omega
    obtain ⟨L, hL⟩ : ∃ L, L = (partL 5 [a, b]).map nfE := ⟨_, rfl⟩
    have hwl := Nat.lt_of_le_of_lt (whole_len 5 [a, b]) hsum
    have hpl := Nat.lt_of_le_of_lt (parts_len 5 [a, b]) hsum
    have KN := Lib.hid fun W (hb : Below w.heap.size w W) => normals_any (k := 5) IH.out (.inr rfl) ok [a, b] al cap W (fun x hx => by
      simp at hx
      rcases hx with rfl | rfl
      · exact ⟨by omega, hw.1⟩
      · exact ⟨by omega, hw.2⟩) (by simp) (by omega) (hrow.below hb)
    have KS := Lib.hid fun ok al cap W (h : RowAt ok W al (L.map Ex.rx)) => alt_any ok L al cap W (by have := parts_len 5 [a, b]; rw [hL, List.length_map]; omega) (by rw [hL]; omega) h
    rw [← hL] at KN
    have hnode := alt_node hw
    rw [← hL] at hnode
    rw [hnode] at KS
    rw [show ([a, b] : List Ex).length = 2 from rfl, show (((5 : Nat) : Int)) = 5 from rfl] at KN
    rw [show ([a.rx, b.rx] : List Rx).length = 2 from rfl, show (((5 : Nat) : Int)) = 5 from rfl] at B ⊢
    generalize nfE (.alt a b) = res at *
    clear h0 hL hnode hwl hpl hsum k4a k5a k6a hw hrow hcap hsok e2 IH hk256
    go_enter Tryz.func34, Tryz.ntmps34
    go_wp2_with fail
    refine (KN.out _ B.out.2.2).mono ?_
    rintro x w1 ⟨al2, cap2, rfl, hcp, hr, hb1⟩
    have B1 := Lib.hid (B.out.go hb1)
    have KS1 := Lib.hid (KS.out _ al2 cap2 w1 hr)
    clear hcp hr hb1 B KN KS
    go_wp2_with fail
    refine KS1.out.mono ?_
    rintro x w2 ⟨v1, rfl, hv1, hb2⟩
    obtain ⟨p0, p1, p2, p3, p4, pl, pn, pc, rfl⟩ := cells_re hv1
    have B2 := Lib.hid (B1.out.go hb2)
    have HV := Lib.hid hv1
    have hlt := (Array.getElem?_eq_some_iff.1 B1.out.2.1).1
    clear hv1 hb2 KS1 B1
    obtain ⟨c0, c1, c2, c3, c4, c5, f0, f1, f2, f3, f4, f5⟩ := cellsR B2.out.2.1
    go_wp2
    exact ret_new B2.out.2.1 HV.out hlt B2.out.2.2 (by omega) Tryz.results34 rfl rfl
  | star a =>
    simp only [Ex.rx] at hsa
    injection hsa with e1 e2 e3
    subst e1
    subst e3
    simp only [Ex.size] at hs
    obtain ⟨bk, off, rfl, hlt0, hn0⟩ := hrow.kid (i := 0) (by simp)
    simp only [List.getElem_cons_zero, Nat.zero_mul, Nat.add_zero] at hn0
    obtain ⟨kc, ⟨ca, cb, cc, cd⟩, ksc, hsc⟩ := rx_form a
    rw [hsc] at hn0
    obtain ⟨al0, cap0, i6, hrc⟩ := hn0.read
    simp only at i6 hrc
    rw [← hsc] at hrc
    have I6 := Lib.hid i6
    have KN := Lib.hid fun W (hb : Below w.heap.size w W) => IH.out a (by omega) hw ok _ W (hrc.below hb)
    have KS := Lib.hid fun ok v W (h : ReAt ok W v (nfE a).rx) => nstar_any (nfE a) ok v W h
    rw [show nfE (.star a) = starE (nfE a) from rfl]
    generalize starE (nfE a) = res at *
    generalize nfE a = na at *
    rw [show ([a.rx] : List Rx).length = 1 from rfl, show (((6 : Nat) : Int)) = 6 from rfl] at B ⊢
    have hcap1 : 1 ≤ cap := by simpa using hcap
    obtain ⟨c0, c1, c2, c3, c4, c5⟩ := six_keep hlt0 I6.out B.out.2.2
    clear h0 k4a k5a k6a hw hrow hcap hsok e2 IH hk256 hrc hsc hn0 i6
    go_enter Tryz.func34, Tryz.ntmps34
    go_wp2_with fail
    refine (KN.out _ B.out.2.2).mono ?_
    rintro x w1 ⟨v1, rfl, hv1, hb1⟩
    have B1 := Lib.hid (B.out.go hb1)
    have KS1 := Lib.hid (KS.out _ v1 w1 hv1)
    have hs1 := hb1.size
    clear hv1 hb1 KN KS c0 c1 c2 c3 c4 c5
    go_wp2_with fail
    refine KS1.out.mono ?_
    rintro x w2 ⟨v2, rfl, hv2, hb2⟩
    obtain ⟨p0, p1, p2, p3, p4, pl, pn, pc, rfl⟩ := cells_re hv2
    have B2 := Lib.hid (B1.out.go hb2)
    have HV := Lib.hid (hv2.imp (ok' := New (w.heap.size + 2)) fun b _ h => by
      unfold New at *
      rcases h with h | h
      · simpa using h
      · simp at hs1; omega)
    clear hv2 hb2 KS1 B1 B hs1
    obtain ⟨c0, c1, c2, c3, c4, c5, f0, f1, f2, f3, f4, f5⟩ := cellsR B2.out.2.1
    go_wp2
    exact ret_new B2.out.2.1 HV.out (by omega) B2.out.2.2 (by omega) Tryz.results34 rfl rfl
  | empty => exact normal_leaf rfl rfl rfl _ w h0
  | eps => exact normal_leaf rfl rfl rfl _ w h0
  | cls s => exact normal_leaf rfl rfl rfl _ w h0
theorem normal_all : ∀ N, N ≤ 800000 → NrmC N
  | 0, _ => fun e h => absurd h (by have := e.size_pos; omega)
  | N + 1, h => normal_step (by omega) (normal_all N (by omega))
theorem normal_any {e : Ex} (hs : e.size ≤ 800000) (hw : e.Wf) {ok : Nat → Prop} (v : Value) (w : World) (h : ReAt ok w v e.rx) : Calls Tryz.prog 34 #[v] w (NewPost (nfE e).rx w) :=
  normal_all 800000 (Nat.le_refl _) e hs hw ok v w h
end Go.Proofs.YtfmdcnfniimkoaaGreat
/- norm.Norm, Is. Made by wip/r8-r.py. -/
namespace Go.Proofs.YtfmdcnfniimkoaaGreat
open Go.RowKit
noncomputable def isX (r : Rx) : Bool := mayR r && sameR r (normX r)
theorem normX_no {r : Rx} (h : mayR r = false) : normX r = .node 0 Ws.nil [] := by unfold normX; rw [exX_no h]; rfl
theorem normX_of {e : Ex} (we : e.Wf) (hs : e.size ≤ 2000) : normX e.rx = (nfE e).rx := by unfold normX; rw [exX_of we hs]; rfl
set_option maxHeartbeats 2000000 in
set_option maxRecDepth 100000 in
theorem normL_any {ok : Nat → Prop} (r : Rx) (v : Value) (w : World) (h : ReAt ok w v r) :
    Calls Tryz.prog 12 #[v] w (NewPost (normX r) w) := by
  obtain ⟨x0, x1, x2, x3, x4, xl, xn, xc, rfl⟩ := cells_re h
  have B := Lib.hid (Bn1.new w (.cells #[.int .u8 x0, .int .u64 x1, .int .u64 x2, .int .u64 x3, .int .u64 x4, .slice xl xn xc] 27))
  have HB2 := Lib.hid (al2 w (.cells #[.int .u8 x0, .int .u64 x1, .int .u64 x2, .int .u64 x3, .int .u64 x4, .slice xl xn xc] 27) zR)
  have hr := row_new (h.below HB2.out)
  have hsz : ((w.alloc (.cells #[.int .u8 x0, .int .u64 x1, .int .u64 x2, .int .u64 x3, .int .u64 x4, .slice xl xn xc] 27)).alloc zR).heap.size = w.heap.size + 2 := by simp
  rw [hsz] at hr
  have HR := Lib.hid hr
  have KM := Lib.hid fun (al : Option Addr) (W : World) (h : RowAt (fun _ => True) W al [r]) => mayX [r] al 1 W (by simp) h
  rw [show [r].length = 1 from rfl, show [r].all mayR = mayR r from by simp] at KM
  have B3 := Lib.hid (B.out.go ((Below.refl _ _).alloc (Nat.le_refl _) (.cells #[.int .u8 x0, .int .u64 x1, .int .u64 x2, .int .u64 x3, .int .u64 x4, .slice xl xn xc] 27)))
  cases hm : mayR r with
  | false =>
    rw [normX_no hm]
    rw [hm] at KM
    clear hm h hr hsz B HB2
    go_enter Tryz.func12, Tryz.ntmps12
    go_wp2_with fail
    refine (KM.out _ _ HR.out).mono ?_
    rintro e w1 ⟨rfl, hb1⟩
    have B1 := Lib.hid (B3.out.go hb1)
    clear hb1 B3 KM HR
    obtain ⟨c0, c1, c2, c3, c4, c5, f0, f1, f2, f3, f4, f5⟩ := cellsR B1.out.2.1
    go_wp2
    exact ret_re (putR B1.out.2.1 _ _ _ _ _ _) Tryz.results12 rfl rfl ⟨_, rfl, bareAt _ _ 0 Ws.nil (by decide) Ws.nil_ok, putB B1.out.2.2 (by omega) _ _ _ _ _ _⟩
  | true =>
    obtain ⟨e0, he0, we, hs⟩ := may_ex h hm
    rw [show normX r = (nfE e0).rx from by rw [← he0]; exact normX_of we hs]
    rw [hm] at KM
    have KN := Lib.hid fun W (hb : Below w.heap.size w W) => normal_any (e := e0) (by omega) we (.agg #[.int .u8 x0, .int .u64 x1, .int .u64 x2, .int .u64 x3, .int .u64 x4, .slice xl xn xc]) W (by rw [he0]; exact h.below hb)
    clear hm h he0 hr hsz B HB2
    go_enter Tryz.func12, Tryz.ntmps12
    go_wp2_with fail
    refine (KM.out _ _ HR.out).mono ?_
    rintro e w1 ⟨rfl, hb1⟩
    have B1 := Lib.hid (B3.out.go hb1)
    clear hb1 B3 KM HR
    obtain ⟨c0, c1, c2, c3, c4, c5, -⟩ := cellsR B1.out.1
    go_wp2_with fail
    refine (KN.out _ B1.out.2.2).mono ?_
    rintro e w2 ⟨v2, rfl, hv2, hb2⟩
    obtain ⟨q0, q1, q2, q3, q4, ql, qn, qc, rfl⟩ := cells_re hv2
    have B2 := Lib.hid (B1.out.go hb2)
    have HV := Lib.hid hv2
    have hlt := (Array.getElem?_eq_some_iff.1 B1.out.2.1).1
    clear hv2 hb2 B1 c0 c1 c2 c3 c4 c5
    obtain ⟨c0, c1, c2, c3, c4, c5, f0, f1, f2, f3, f4, f5⟩ := cellsR B2.out.2.1
    go_wp2
    exact ret_new B2.out.2.1 HV.out hlt B2.out.2.2 (by omega) Tryz.results12 rfl rfl
set_option maxHeartbeats 4000000 in
set_option maxRecDepth 100000 in
theorem isCl_any {ok : Nat → Prop} (r : Rx) (v : Value) (w : World) (h : ReAt ok w v r) :
    Calls Tryz.prog 36 #[v] w fun e w' => e = .returned (.bool (!isX r)) ∧ Below w.heap.size w w' := by
  obtain ⟨x0, x1, x2, x3, x4, xl, xn, xc, rfl⟩ := cells_re h
  have KM := Lib.hid fun (al : Option Addr) (W : World) (h : RowAt (fun _ => True) W al [r]) => mayX [r] al 1 W (by simp) h
  rw [show [r].length = 1 from rfl, show [r].all mayR = mayR r from by simp] at KM
  have BX := Lib.hid (show (w.alloc (.cells #[.int .u8 x0, .int .u64 x1, .int .u64 x2, .int .u64 x3, .int .u64 x4, .slice xl xn xc] 27)).heap[w.heap.size]? = some (.cells #[.int .u8 x0, .int .u64 x1, .int .u64 x2, .int .u64 x3, .int .u64 x4, .slice xl xn xc] 27) ∧ Below w.heap.size w (w.alloc (.cells #[.int .u8 x0, .int .u64 x1, .int .u64 x2, .int .u64 x3, .int .u64 x4, .slice xl xn xc] 27)) from ⟨blk_new w _, (Below.refl _ w).alloc (Nat.le_refl _) _⟩)
  have HRE := Lib.hid h
  have pre : ∀ W, (W.heap[w.heap.size]? = some (.cells #[.int .u8 x0, .int .u64 x1, .int .u64 x2, .int .u64 x3, .int .u64 x4, .slice xl xn xc] 27) ∧ Below w.heap.size w W) → True := fun _ _ => trivial
  clear pre
  cases hm : mayR r with
  | false =>
    have hq : (!isX r) = true := by unfold isX; rw [hm]; rfl
    rw [hq]
    rw [hm] at KM
    clear hm hq h
    go_enter Tryz.func36, Tryz.ntmps36
    go_wp2_with fail
    obtain ⟨W, hW⟩ : ∃ x, x = w.alloc (.cells #[.int .u8 x0, .int .u64 x1, .int .u64 x2, .int .u64 x3, .int .u64 x4, .slice xl xn xc] 27) := ⟨_, rfl⟩
    rw [← hW] at BX ⊢
    clear hW
    have WB := Lib.hid fun x (hx : Below W.heap.size W x) => BX.out.2.trans (hx.mono BX.out.2.size)
    have CX := Lib.hid fun x (hx : Below W.heap.size W x) => cellsR ((hx.block _ (Array.getElem?_eq_some_iff.1 BX.out.1).1).trans BX.out.1)
    have HRW := Lib.hid fun x (hx : Below W.heap.size W x) => HRE.out.below (WB.out x hx)
    refine wp_region_order (fun i => ([SP.eq (.agg #[.int .u8 x0, .int .u64 x1, .int .u64 x2, .int .u64 x3, .int .u64 x4, .slice xl xn xc]), SP.row r, SP.eq (.bool false), SP.eq (.bool true), SP.eq (.bool true), SP.free, SP.free, SP.free, SP.free, SP.free, SP.eq (.bool true), SP.eq (.bool true)] : List SP).getD i SP.free) (by kernel_rfl) (by kernel_rfl) ⟨?_, ?_, ?_, ?_, ?_, ?_, ?_, ?_, ?_, ?_, ?_, ?_, trivial⟩ ?_
    · intro a x K out get hb hK
      rw [if_pos (wanted_none rfl)]
      have o1 : a.tmps[1]? = some (.pointer (some ⟨w.heap.size, 0, none⟩)) := out 1 (by kernel_rfl)
      obtain ⟨c0, c1, c2, c3, c4, c5, -⟩ := CX.out x hb
      clear out get
      go_simp
      exact hK _ _ rfl (Below.refl _ _)
    · intro a x K out get hb hK
      rw [if_pos (wanted_none rfl)]
      obtain ⟨y3, hy3, rfl⟩ := get 0 _ _ rfl rfl (by kernel_rfl)
      clear out get
      go_simp
      exact hK _ _ ⟨_, rfl, row_new (HRW.out x hb)⟩ (bel_al _ _)
    · intro a x K out get hb hK
      rw [if_pos (wanted_none rfl)]
      obtain ⟨y4, hy4, ⟨g4, rfl, hrow4⟩⟩ := get 1 _ _ rfl rfl (by kernel_rfl)
      clear out get
      go_simp
      refine (KM.out _ _ hrow4).mono ?_
      rintro e w2 ⟨rfl, hb2⟩
      exact hK _ _ rfl hb2
    · intro a x K out get hb hK
      rw [if_pos (wanted_none rfl)]
      obtain ⟨y5, hy5, rfl⟩ := get 2 _ _ rfl rfl (by kernel_rfl)
      clear out get
      go_simp
      exact hK _ _ rfl (Below.refl _ _)
    · intro a x K out get hb hK
      rw [if_pos (wanted_none rfl)]
      obtain ⟨y6, hy6, rfl⟩ := get 3 _ _ rfl rfl (by kernel_rfl)
      clear out get
      go_simp
      exact hK _ _ rfl (Below.refl _ _)
    · intro a x K out get hb hK
      obtain ⟨yg, hyg, rfl⟩ := get 4 _ _ rfl rfl (by kernel_rfl)
      rw [if_neg (by rw [wanted_bool rfl rfl rfl hyg]; decide)]
      exact hK _ _ trivial (Below.refl _ _)
    · intro a x K out get hb hK
      obtain ⟨yg, hyg, rfl⟩ := get 4 _ _ rfl rfl (by kernel_rfl)
      rw [if_neg (by rw [wanted_bool rfl rfl rfl hyg]; decide)]
      exact hK _ _ trivial (Below.refl _ _)
    · intro a x K out get hb hK
      obtain ⟨yg, hyg, rfl⟩ := get 4 _ _ rfl rfl (by kernel_rfl)
      rw [if_neg (by rw [wanted_bool rfl rfl rfl hyg]; decide)]
      exact hK _ _ trivial (Below.refl _ _)
    · intro a x K out get hb hK
      obtain ⟨yg, hyg, rfl⟩ := get 4 _ _ rfl rfl (by kernel_rfl)
      rw [if_neg (by rw [wanted_bool rfl rfl rfl hyg]; decide)]
      exact hK _ _ trivial (Below.refl _ _)
    · intro a x K out get hb hK
      obtain ⟨yg, hyg, rfl⟩ := get 4 _ _ rfl rfl (by kernel_rfl)
      rw [if_neg (by rw [wanted_bool rfl rfl rfl hyg]; decide)]
      exact hK _ _ trivial (Below.refl _ _)
    · intro a x K out get hb hK
      rw [if_pos (wanted_none rfl)]
      obtain ⟨y7, hy7, rfl⟩ := get 4 _ _ rfl rfl (by kernel_rfl)
      obtain ⟨y12, hy12, -⟩ := get 9 _ _ rfl rfl (by kernel_rfl)
      clear out get
      go_simp
      exact hK _ _ rfl (Below.refl _ _)
    · intro a x K out get hb hK
      rw [if_pos (wanted_none rfl)]
      obtain ⟨y13, hy13, rfl⟩ := get 10 _ _ rfl rfl (by kernel_rfl)
      clear out get
      go_simp
      exact hK _ _ rfl (Below.refl _ _)
    refine ao_fin (isD := fun s => (decide (3 ≤ s) && decide (s ≤ 13)) || decide (s = 2)) (by kernel_rfl) ?_
    intro f x hv hb
    have h2 : f 2 = _ := hv 11 _ _ rfl rfl
    have HB := Lib.hid (WB.out x hb)
    clear hv hb
    simp only [frm]
    simp
    rw [h2]
    generalize f 3 = u3 at *
    generalize f 4 = u4 at *
    generalize f 5 = u5 at *
    generalize f 6 = u6 at *
    generalize f 7 = u7 at *
    generalize f 8 = u8 at *
    generalize f 9 = u9 at *
    generalize f 10 = u10 at *
    generalize f 11 = u11 at *
    generalize f 12 = u12 at *
    generalize f 13 = u13 at *
    clear h2 f
    go_wp2
    go_ret
    exact ⟨rfl, HB.out⟩
  | true =>
    obtain ⟨e0, he0, we, hs⟩ := may_ex h hm
    have hq : (!isX r) = !sameR r (nfE e0).rx := by unfold isX; rw [hm, ← he0, normX_of we hs, Bool.true_and]
    rw [hq]
    rw [hm] at KM
    have KN0 := Lib.hid fun W (hb : Below w.heap.size w W) => normal_any (e := e0) (by omega) we (.agg #[.int .u8 x0, .int .u64 x1, .int .u64 x2, .int .u64 x3, .int .u64 x4, .slice xl xn xc]) W (by rw [he0]; exact HRE.out.below hb)
    have KS0 := Lib.hid fun W (hb : Below w.heap.size w W) v2 (hv : ReAt (fun _ => True) W v2 (nfE e0).rx) => sameX r (nfE e0).rx (.agg #[.int .u8 x0, .int .u64 x1, .int .u64 x2, .int .u64 x3, .int .u64 x4, .slice xl xn xc]) v2 W (HRE.out.below hb) hv
    generalize sameR r (nfE e0).rx = q at *
    clear hm hq h he0 hs we
    go_enter Tryz.func36, Tryz.ntmps36
    go_wp2_with fail
    obtain ⟨W, hW⟩ : ∃ x, x = w.alloc (.cells #[.int .u8 x0, .int .u64 x1, .int .u64 x2, .int .u64 x3, .int .u64 x4, .slice xl xn xc] 27) := ⟨_, rfl⟩
    rw [← hW] at BX ⊢
    clear hW
    have WB := Lib.hid fun x (hx : Below W.heap.size W x) => BX.out.2.trans (hx.mono BX.out.2.size)
    have CX := Lib.hid fun x (hx : Below W.heap.size W x) => cellsR ((hx.block _ (Array.getElem?_eq_some_iff.1 BX.out.1).1).trans BX.out.1)
    have HRW := Lib.hid fun x (hx : Below W.heap.size W x) => HRE.out.below (WB.out x hx)
    have KN := Lib.hid fun x (hx : Below W.heap.size W x) => KN0.out x (WB.out x hx)
    have KS := Lib.hid fun x (hx : Below W.heap.size W x) => KS0.out x (WB.out x hx)
    refine wp_region_order (fun i => ([SP.eq (.agg #[.int .u8 x0, .int .u64 x1, .int .u64 x2, .int .u64 x3, .int .u64 x4, .slice xl xn xc]), SP.row r, SP.eq (.bool true), SP.eq (.bool false), SP.eq (.bool false), SP.eq (.agg #[.int .u8 x0, .int .u64 x1, .int .u64 x2, .int .u64 x3, .int .u64 x4, .slice xl xn xc]), SP.eq (.agg #[.int .u8 x0, .int .u64 x1, .int .u64 x2, .int .u64 x3, .int .u64 x4, .slice xl xn xc]), SP.ex (fun _ => True) (nfE e0), SP.eq (.bool q), SP.eq (.bool (!q)), SP.eq (.bool (!q)), SP.eq (.bool (!q))] : List SP).getD i SP.free) (by kernel_rfl) (by kernel_rfl) ⟨?_, ?_, ?_, ?_, ?_, ?_, ?_, ?_, ?_, ?_, ?_, ?_, trivial⟩ ?_
    · intro a x K out get hb hK
      rw [if_pos (wanted_none rfl)]
      have o1 : a.tmps[1]? = some (.pointer (some ⟨w.heap.size, 0, none⟩)) := out 1 (by kernel_rfl)
      obtain ⟨c0, c1, c2, c3, c4, c5, -⟩ := CX.out x hb
      clear out get
      go_simp
      exact hK _ _ rfl (Below.refl _ _)
    · intro a x K out get hb hK
      rw [if_pos (wanted_none rfl)]
      obtain ⟨y3, hy3, rfl⟩ := get 0 _ _ rfl rfl (by kernel_rfl)
      clear out get
      go_simp
      exact hK _ _ ⟨_, rfl, row_new (HRW.out x hb)⟩ (bel_al _ _)
    · intro a x K out get hb hK
      rw [if_pos (wanted_none rfl)]
      obtain ⟨y4, hy4, ⟨g4, rfl, hrow4⟩⟩ := get 1 _ _ rfl rfl (by kernel_rfl)
      clear out get
      go_simp
      refine (KM.out _ _ hrow4).mono ?_
      rintro e w2 ⟨rfl, hb2⟩
      exact hK _ _ rfl hb2
    · intro a x K out get hb hK
      rw [if_pos (wanted_none rfl)]
      obtain ⟨y5, hy5, rfl⟩ := get 2 _ _ rfl rfl (by kernel_rfl)
      clear out get
      go_simp
      exact hK _ _ rfl (Below.refl _ _)
    · intro a x K out get hb hK
      rw [if_pos (wanted_none rfl)]
      obtain ⟨y6, hy6, rfl⟩ := get 3 _ _ rfl rfl (by kernel_rfl)
      clear out get
      go_simp
      exact hK _ _ rfl (Below.refl _ _)
    · intro a x K out get hb hK
      obtain ⟨yg, hyg, rfl⟩ := get 4 _ _ rfl rfl (by kernel_rfl)
      rw [if_pos (by rw [wanted_bool rfl rfl rfl hyg]; rfl)]
      clear hyg
      have o1 : a.tmps[1]? = some (.pointer (some ⟨w.heap.size, 0, none⟩)) := out 1 (by kernel_rfl)
      obtain ⟨c0, c1, c2, c3, c4, c5, -⟩ := CX.out x hb
      clear out get
      go_simp
      exact hK _ _ rfl (Below.refl _ _)
    · intro a x K out get hb hK
      obtain ⟨yg, hyg, rfl⟩ := get 4 _ _ rfl rfl (by kernel_rfl)
      rw [if_pos (by rw [wanted_bool rfl rfl rfl hyg]; rfl)]
      clear hyg
      have o1 : a.tmps[1]? = some (.pointer (some ⟨w.heap.size, 0, none⟩)) := out 1 (by kernel_rfl)
      obtain ⟨c0, c1, c2, c3, c4, c5, -⟩ := CX.out x hb
      clear out get
      go_simp
      exact hK _ _ rfl (Below.refl _ _)
    · intro a x K out get hb hK
      obtain ⟨yg, hyg, rfl⟩ := get 4 _ _ rfl rfl (by kernel_rfl)
      rw [if_pos (by rw [wanted_bool rfl rfl rfl hyg]; rfl)]
      clear hyg
      obtain ⟨y9, hy9, rfl⟩ := get 6 _ _ rfl rfl (by kernel_rfl)
      clear out get
      go_simp
      refine (KN.out x hb).mono ?_
      rintro e w2 ⟨v2, rfl, hv2, hb2⟩
      exact hK _ _ (ExV.of hv2 fun _ _ _ => trivial) hb2
    · intro a x K out get hb hK
      obtain ⟨yg, hyg, rfl⟩ := get 4 _ _ rfl rfl (by kernel_rfl)
      rw [if_pos (by rw [wanted_bool rfl rfl rfl hyg]; rfl)]
      clear hyg
      obtain ⟨y8, hy8, rfl⟩ := get 5 _ _ rfl rfl (by kernel_rfl)
      obtain ⟨y10, hy10, ⟨q0, q1, q2, q3, q4, ql, qn, qc, rfl, hr10⟩⟩ := get 7 _ _ rfl rfl (by kernel_rfl)
      clear out get
      go_simp
      refine (KS.out x hb _ hr10).mono ?_
      rintro e w2 ⟨rfl, hb2⟩
      exact hK _ _ rfl hb2
    · intro a x K out get hb hK
      obtain ⟨yg, hyg, rfl⟩ := get 4 _ _ rfl rfl (by kernel_rfl)
      rw [if_pos (by rw [wanted_bool rfl rfl rfl hyg]; rfl)]
      clear hyg
      obtain ⟨y11, hy11, rfl⟩ := get 8 _ _ rfl rfl (by kernel_rfl)
      clear out get
      go_simp
      exact hK _ _ rfl (Below.refl _ _)
    · intro a x K out get hb hK
      rw [if_pos (wanted_none rfl)]
      obtain ⟨y7, hy7, rfl⟩ := get 4 _ _ rfl rfl (by kernel_rfl)
      obtain ⟨y12, hy12, rfl⟩ := get 9 _ _ rfl rfl (by kernel_rfl)
      clear out get
      go_simp
      exact hK _ _ rfl (Below.refl _ _)
    · intro a x K out get hb hK
      rw [if_pos (wanted_none rfl)]
      obtain ⟨y13, hy13, rfl⟩ := get 10 _ _ rfl rfl (by kernel_rfl)
      clear out get
      go_simp
      exact hK _ _ rfl (Below.refl _ _)
    refine ao_fin (isD := fun s => (decide (3 ≤ s) && decide (s ≤ 13)) || decide (s = 2)) (by kernel_rfl) ?_
    intro f x hv hb
    have h2 : f 2 = _ := hv 11 _ _ rfl rfl
    have HB := Lib.hid (WB.out x hb)
    clear hv hb
    simp only [frm]
    simp
    rw [h2]
    generalize f 3 = u3 at *
    generalize f 4 = u4 at *
    generalize f 5 = u5 at *
    generalize f 6 = u6 at *
    generalize f 7 = u7 at *
    generalize f 8 = u8 at *
    generalize f 9 = u9 at *
    generalize f 10 = u10 at *
    generalize f 11 = u11 at *
    generalize f 12 = u12 at *
    generalize f 13 = u13 at *
    clear h2 f
    go_wp2
    go_ret
    exact ⟨rfl, HB.out⟩
def idxInvI (l : List Rx) (w : World) (y : Value) (wr : World) : Prop := ∃ i : Nat, i ≤ l.length ∧ y = .int .i64 i ∧ (l.take i).all isX = true ∧ Below w.heap.size w wr
def IdxPostI (q : Bool) (w : World) (e : Ending) (w' : World) : Prop := ∃ x : Int, decide (0 ≤ x) = !q ∧ e = .returned (.int .i64 x) ∧ Below w.heap.size w w'
set_option maxHeartbeats 4000000 in
theorem indexI_any {ok : Nat → Prop} (l : List Rx) (al : Option Addr) (cap : Nat) (w : World) (hl : l.length < 2199023255552) (hR : RowAt ok w al l) :
    Calls Tryz.prog 60 #[.slice al l.length cap, .func (.func 36) #[] #[]] w (IdxPostI (l.all isX) w) := by
  have HR := Lib.hid hR
  clear hR
  go_enter Tryz.func60, Tryz.ntmps60
  go_wp2
  go_loopw [8] (fun y wr => idxInvI l w y wr) (fun y _ => l.length - (intOf y).toNat)
  case atStart => exact ⟨0, Nat.zero_le _, rfl, by simp, Below.refl _ _⟩
  case round =>
    obtain ⟨i, hi, rfl, hmay, hb⟩ := hrel
    have HY := Lib.hid hmay
    clear hmay
    by_cases hlt : i < l.length
    · obtain ⟨b, off, hab, hblt, hnode⟩ := HR.out.kid hlt
      subst hab
      have hkid := NodeAt.below hb _ hblt hnode
      have htk : (l.take (i + 1)).all isX = ((l.take i).all isX && isX l[i]) := by
        rw [List.take_succ_eq_append_getElem hlt, List.all_append]; simp
      have hno : isX l[i] = false → l.all isX = false := fun h => by
        rw [List.all_eq_false]; exact ⟨l[i], List.getElem_mem hlt, by rw [h]; simp⟩
      clear hnode
      generalize l[i] = kid at *
      obtain ⟨k', ⟨ta, tb, tc, td⟩, ks'⟩ := kid
      obtain ⟨al', cap', ⟨c0, c1, c2, c3, c4, c5⟩, hre⟩ := hkid.read
      simp only at c0 c1 c2 c3 c4 c5
      have K := Lib.hid (isCl_any _ _ wr hre)
      generalize isX (Rx.node k' ⟨ta, tb, tc, td⟩ ks') = q at *
      have T1 := Lib.hid htk
      have T2 := Lib.hid hno
      clear hkid hre htk hno
      have q1 : (i : Int) < (l.length : Int) := by omega
      go_wp2_with fail
      refine K.out.mono ?_
      rintro e w1 ⟨rfl, hb1⟩
      replace hb := hb.trans (hb1.mono hb.size)
      clear hb1 c0 c1 c2 c3 c4 c5
      cases q with
      | true =>
        go_wp2
        exact ⟨⟨i + 1, by omega, by go_num, by rw [T1.out, HY.out]; rfl, hb⟩, by simp [intOf]; omega⟩
      | false =>
        go_wp2
        go_ret
        exact ⟨i, by rw [T2.out trivial]; simp, rfl, hb⟩
    · have he : l.take i = l := List.take_of_length_le (by omega)
      rw [he] at HY
      go_wp2
      go_ret
      exact ⟨-1, by rw [HY.out]; rfl, rfl, hb⟩
theorem containsI_any {ok : Nat → Prop} (l : List Rx) (al : Option Addr) (cap : Nat) (w : World) (hl : l.length < 2199023255552) (hR : RowAt ok w al l) :
    Calls Tryz.prog 35 #[.slice al l.length cap, .func (.func 36) #[] #[]] w fun e w' => e = .returned (.bool (!l.all isX)) ∧ Below w.heap.size w w' := by
  have K := Lib.hid (indexI_any l al cap w hl hR)
  clear hR
  generalize l.all isX = q at *
  go_enter Tryz.func35, Tryz.ntmps35
  go_wp2_with fail
  refine K.out.mono ?_
  rintro e w1 ⟨x, hx, rfl, hb⟩
  have HX := Lib.hid hx
  clear hx
  go_wp2
  go_ret
  exact ⟨by rw [← HX.out]; rfl, hb⟩
theorem isL_any {ok : Nat → Prop} (l : List Rx) (al : Option Addr) (cap : Nat) (w : World) (hl : l.length < 2199023255552) (hR : RowAt ok w al l) :
    Calls Tryz.prog 13 #[.slice al l.length cap] w fun e w' => e = .returned (.bool (l.all isX)) ∧ Below w.heap.size w w' := by
  have K := Lib.hid (containsI_any l al cap w hl hR)
  clear hR
  skip
  generalize l.all isX = q at *
  go_enter Tryz.func13, Tryz.ntmps13
  go_wp2_with fail
  refine K.out.mono ?_
  rintro e w1 ⟨rfl, hb⟩
  go_wp2
  go_ret
  exact ⟨by simp, hb⟩
end Go.Proofs.YtfmdcnfniimkoaaGreat
/- Layer 8's example. -/
namespace Go.Proofs.YtfmdcnfniimkoaaGreat
open Go.RowKit
def exN : Ex := .alt (.seq .eps (.cls (rngW 97 97))) (.alt (.seq .empty (.cls (rngW 98 98))) (.cls (rngW 97 97)))
theorem px_n : PX .alt [40, 41, 97, 124, 91, 93, 98, 124, 97] (.ok exN []) :=
  PX.altMore (PX.rowMore (PX.eps [97, 124, 91, 93, 98, 124, 97]) rfl rfl (PX.rowOne (ex_atom 97 _ rfl (by decide) (by decide) (by decide)) rfl rfl))
    (PX.altMore (PX.rowMore (PX.cls (PCls.done Ws.nil [98, 124, 97])) rfl rfl (PX.rowOne (ex_atom 98 _ rfl (by decide) (by decide) (by decide)) rfl rfl))
      (PX.altOne (PX.rowOne (ex_atom 97 _ rfl (by decide) (by decide) (by decide)) rfl rfl) (notAt_nil _)))
theorem rd_n : rdOf ⟨#[40, 41, 97, 124, 91, 93, 98, 124, 97]⟩ = .ok exN := by
  rw [rdOf_px (s := ⟨#[40, 41, 97, 124, 91, 93, 98, 124, 97]⟩) px_n]
  unfold topR
  rw [if_neg (by decide)]
  simp only [if_true]
  rw [if_pos (by decide)]
theorem has_ne {s : Ws} {n : Nat} (h : s.has n = true) : s ≠ Ws.nil := fun e => by rw [e, Ws.has_nil] at h; cases h
theorem wf_n : exN.Wf := ⟨⟨trivial, ofN_ok _, has_ne (n := 97) (by decide +kernel)⟩, ⟨trivial, ofN_ok _, has_ne (n := 98) (by decide +kernel)⟩, ofN_ok _, has_ne (n := 97) (by decide +kernel)⟩
theorem nf_n : nfE exN = .cls (rngW 97 97) := by kernel_rfl
theorem word_a : foldR 4 2 (wordL ⟨#[97]⟩) = (Ex.cls (rngW 97 97)).rx := by kernel_rfl
theorem normX_n : normX exN.rx = (Ex.cls (rngW 97 97)).rx := by rw [normX_of wf_n (by decide), nf_n]
theorem isX_n : isX exN.rx = false := by
  unfold isX
  rw [normX_n, show sameR exN.rx (Ex.cls (rngW 97 97)).rx = false from by
    cases h : sameR exN.rx (Ex.cls (rngW 97 97)).rx with
    | false => rfl
    | true =>
      have := (sameR_iff _ _).1 h
      simp [exN, Ex.rx] at this]
  simp
def Awake8C : Prop := ∀ (w : World), Calls Tryz.prog 8 #[] w fun x w' => x = .returned (.bool true) ∧ Below w.heap.size w w'
set_option maxHeartbeats 4000000 in
set_option maxRecDepth 100000 in
theorem awake8_any (hRead : ReadC) : Awake8C := by
  intro w
  have K1 := Lib.hid (hRead ⟨#[40, 41, 97, 124, 91, 93, 98, 124, 97]⟩ w (by decide))
  rw [rd_n] at K1
  have KN := Lib.hid fun (ok : Nat → Prop) v W (h : ReAt ok W v exN.rx) => normL_any exN.rx v W h
  rw [normX_n] at KN
  have KW := Lib.hid fun W => word_any ⟨#[97]⟩ W (by decide)
  rw [word_a] at KW
  have KI := Lib.hid fun (ok : Nat → Prop) al W (h : RowAt ok W al [exN.rx]) => isL_any [exN.rx] al 1 W (by simp) h
  rw [show [exN.rx].all isX = false from by simp [isX_n], show [exN.rx].length = 1 from rfl] at KI
  have KS := Lib.hid fun (ok ok' : Nat → Prop) v u W (h : ReAt ok W v (Ex.cls (rngW 97 97)).rx) (h' : ReAt ok' W u (Ex.cls (rngW 97 97)).rx) => refSame (Ex.cls (rngW 97 97)).rx (Ex.cls (rngW 97 97)).rx v u W h h'
  rw [show sameR (Ex.cls (rngW 97 97)).rx (Ex.cls (rngW 97 97)).rx = true from (sameR_iff _ _).2 rfl] at KS
  generalize (Ex.cls (rngW 97 97)).rx = cx at *
  go_enter Tryz.func8, Tryz.ntmps8
  go_wp2_with fail
  refine K1.out.mono ?_
  rintro e w1 ⟨hb1, v, rfl, hv⟩
  obtain ⟨x0, x1, x2, x3, x4, xl, xn, xc, rfl⟩ := cells_re hv
  have hal := (Below.refl _ w1).alloc (Nat.le_refl _) (.cells #[.int .u8 x0, .int .u64 x1, .int .u64 x2, .int .u64 x3, .int .u64 x4, .slice xl xn xc] 27)
  have HX := Lib.hid (blk_new w1 (.cells #[.int .u8 x0, .int .u64 x1, .int .u64 x2, .int .u64 x3, .int .u64 x4, .slice xl xn xc] 27))
  have HV := Lib.hid (hv.below hal)
  have HB := Lib.hid (hb1.trans (hal.mono hb1.size))
  clear hal hb1 hv
  go_wp2_with fail
  refine (KN.out _ _ _ HV.out).mono ?_
  rintro e w2 ⟨v2, rfl, hv2, hb2⟩
  have HV2 := Lib.hid (HV.out.below hb2)
  have HB2 := Lib.hid (HB.out.trans (hb2.mono HB.out.size))
  have HX2 := Lib.hid ((hb2.block _ (by simp)).trans HX.out)
  have HN := Lib.hid hv2
  clear hb2 HV HB HX hv2
  go_wp2_with fail
  refine (KW.out _).mono ?_
  rintro e w3 ⟨v3, rfl, hv3, hb3⟩
  have HV3 := Lib.hid (HV2.out.below hb3)
  have HB3 := Lib.hid (HB2.out.trans (hb3.mono HB2.out.size))
  have HX3 := Lib.hid ((hb3.block _ (Array.getElem?_eq_some_iff.1 HX2.out).1).trans HX2.out)
  have HS := Lib.hid (KS.out _ _ v2 v3 w3 (HN.out.below hb3) hv3)
  clear hb3 HV2 HB2 HX2 HN hv3 KS
  go_wp2_with fail
  refine HS.out.mono ?_
  rintro e w4 ⟨rfl, hb4⟩
  have HV4 := Lib.hid (HV3.out.below hb4)
  have HB4 := Lib.hid (HB3.out.trans (hb4.mono HB3.out.size))
  have HX4 := Lib.hid ((hb4.block _ (Array.getElem?_eq_some_iff.1 HX3.out).1).trans HX3.out)
  clear hb4 HV3 HB3 HX3 HS
  obtain ⟨c0, c1, c2, c3, c4, c5, -⟩ := cellsR HX4.out
  go_wp2_with fail
  refine (KI.out _ _ _ (row_new HV4.out)).mono ?_
  rintro e w5 ⟨rfl, hb5⟩
  have hal := ((Below.refl _ w4).alloc (Nat.le_refl _) (.cells #[.int .u8 x0, .int .u64 x1, .int .u64 x2, .int .u64 x3, .int .u64 x4, .slice xl xn xc] 27)).trans (hb5.mono (by simp))
  go_wp2
  go_ret
  exact ⟨rfl, HB4.out.trans (hal.mono HB4.out.size)⟩
end Go.Proofs.YtfmdcnfniimkoaaGreat
/- What layer 8's walks share. -/
namespace Go.Proofs.YtfmdcnfniimkoaaGreat
open Go.RowKit
theorem mgreat_200 {r : Rx} (h : r.size ≤ 1000000000 → false = greatB r 200) (hs : r.size ≤ 1048576) : r.size ≤ 200 := by
  have := (h (by omega)).symm
  simp [greatB] at this
  omega
def RxV (r : Rx) (x : Value) (w : World) : Prop := ∃ (p0 p1 p2 p3 p4 : Int) (pl : Option Addr) (pn pc : Nat), x = .agg #[.int .u8 p0, .int .u64 p1, .int .u64 p2, .int .u64 p3, .int .u64 p4, .slice pl pn pc] ∧ ReAt (fun _ => True) w (.agg #[.int .u8 p0, .int .u64 p1, .int .u64 p2, .int .u64 p3, .int .u64 p4, .slice pl pn pc]) r
theorem RxV.of {ok : Nat → Prop} {w : World} {v : Value} {r : Rx} (h : ReAt ok w v r) : RxV r v w := by
  obtain ⟨p0, p1, p2, p3, p4, pl, pn, pc, rfl⟩ := cells_re h
  exact ⟨p0, p1, p2, p3, p4, pl, pn, pc, rfl, h.imp fun _ _ _ => trivial⟩
/-- An expression, whatever it is. -/
def SP.rx (r : Rx) : SP := ⟨RxV r, fun _ _ _ ⟨p0, p1, p2, p3, p4, pl, pn, pc, h1, h2⟩ hb => ⟨p0, p1, p2, p3, p4, pl, pn, pc, h1, h2.below hb⟩⟩
theorem same_comm (a b : Rx) : sameR a b = sameR b a := by
  cases h : sameR b a with
  | true => exact (sameR_iff _ _).2 ((sameR_iff _ _).1 h).symm
  | false =>
    cases h2 : sameR a b with
    | false => rfl
    | true => rw [(sameR_iff _ _).2 ((sameR_iff _ _).1 h2).symm] at h; exact h
theorem may_wf {e : Ex} (we : e.Wf) (hs : e.size ≤ 2000) : mayR e.rx = true := by
  unfold mayR mayN
  rw [good_ex e we, Ex.size_rx, decide_eq_true hs]; rfl
end Go.Proofs.YtfmdcnfniimkoaaGreat
/- quilllaw08.NormIs, walked. Made by wip/r8-w.py. -/
namespace Go.Proofs.YtfmdcnfniimkoaaGreat
open Go.RowKit
set_option maxHeartbeats 8000000 in
set_option maxRecDepth 100000 in
theorem normIs_walk (hRead : ReadC) {ok : Nat → Prop} (r : Rx) (v : Value) (w : World) (h : ReAt ok w v r) (hsz : r.size ≤ 1048576) :
    Calls Tryz.prog 3 #[v] w fun e w' => e = .returned (.bool true) ∧ Below w.heap.size w w' := by
  obtain ⟨x0, x1, x2, x3, x4, xl, xn, xc, rfl⟩ := cells_re h
  have G1 := Lib.hid fun W (hb : Below w.heap.size w W) => great_any r 200 _ W (h.below hb) (by decide)
  have HM := Lib.hid (fun h => mgreat_200 (r := r) h hsz)
  have MM := Lib.hid fun (hz : r.size ≤ 200) W (hb : Below w.heap.size w W) => refMay_any r _ W (by omega) (h.below hb)
  have KA := Lib.hid (awake8_any hRead)
  have HH := Lib.hid h
  have B := Lib.hid (Bx.new w x0 x1 x2 x3 x4 xl xn xc)
  have K8 := Lib.hid fun (hz : r.size ≤ 200) W (hb : Below w.heap.size w W) => ref8norm r _ W (by omega) (h.below hb)
  have KN0 := Lib.hid fun W (hb : Below w.heap.size w W) => normL_any r _ W (h.below hb)
  have KI := Lib.hid fun g W (h : RowAt (fun _ => True) W (some ⟨g, 0, none⟩) [r]) => isL_any [r] (some ⟨g, 0, none⟩) 1 W (by simp) h
  rw [show [r].all isX = isX r from by simp, show [r].length = 1 from rfl] at KI
  have KO := Lib.hid fun (ok' : Nat → Prop) u W (hb : Below w.heap.size w W) (h' : ReAt ok' W u (normX r)) => refSame (normX r) r u _ W h' (h.below hb)
  have KS0 := Lib.hid fun (ok1 ok2 : Nat → Prop) v u W (h : ReAt ok1 W v (normX r)) (h' : ReAt ok2 W u (normX r)) => refSame (normX r) (normX r) v u W h h'
  rw [(sameR_iff (normX r) (normX r)).2 rfl] at KS0
  have hown : isX r = (mayR r && sameR (normX r) r) := by unfold isX; rw [same_comm]
  obtain ⟨m, hm⟩ : ∃ m, mayR r = m := ⟨_, rfl⟩
  rw [hm] at MM hown
  generalize sameR (normX r) r = sm at *
  generalize isX r = own at *
  generalize normX r = nx at *
  clear h hRead hm
  go_enter Tryz.func3, Tryz.ntmps3
  go_wp2_with fail
  refine (G1.out _ B.out.2).mono ?_
  rintro e w' ⟨⟨p, rfl, hp⟩, hb⟩
  replace B := Lib.hid (B.out.go hb)
  have HP := Lib.hid hp
  clear hb hp
  cases p with
  | true =>
    go_wp2_with fail
    refine (KA.out _).mono ?_
    rintro e w2 ⟨rfl, hb⟩
    have hB := (B.out.go hb).2
    go_wp2
    go_ret
    exact ⟨rfl, hB⟩
  | false =>
    obtain ⟨c0, c1, c2, c3, c4, c5, -⟩ := cellsR B.out.1
    go_wp2_with fail
    refine (K8.out (HM.out HP.out) _ B.out.2).mono ?_
    rintro e w2 ⟨v2, rfl, hv2, hb⟩
    obtain ⟨y0, y1, y2, y3, y4, yl, yn, yc, rfl⟩ := cells_re hv2
    replace B := Lib.hid (B.out.go hb)
    have hal := (Below.refl _ w2).alloc (Nat.le_refl _) (.cells #[.int .u8 y0, .int .u64 y1, .int .u64 y2, .int .u64 y3, .int .u64 y4, .slice yl yn yc] 27)
    have HY := Lib.hid (blk_new w2 (.cells #[.int .u8 y0, .int .u64 y1, .int .u64 y2, .int .u64 y3, .int .u64 y4, .slice yl yn yc] 27))
    have HVY := Lib.hid (hv2.below hal)
    have B3 := Lib.hid (B.out.go hal)
    clear hb c0 c1 c2 c3 c4 c5 hv2 hal
    obtain ⟨c0, c1, c2, c3, c4, c5, -⟩ := cellsR B3.out.1
    obtain ⟨d0, d1, d2, d3, d4, d5, -⟩ := cellsR HY.out
    have HSZ := HM.out HP.out
    have HOW := Lib.hid hown
    clear hown
    go_upto_region 4 with fail
    obtain ⟨W3, hW3⟩ : ∃ x, x = w2.alloc (.cells #[.int .u8 y0, .int .u64 y1, .int .u64 y2, .int .u64 y3, .int .u64 y4, .slice yl yn yc] 27) := ⟨_, rfl⟩
    rw [← hW3] at HVY B3 HY c0 c1 c2 c3 c4 c5 d0 d1 d2 d3 d4 d5 ⊢
    have MM3 := Lib.hid (MM.out HSZ W3 B3.out.2)
    clear hW3 MM
    go_cut [4] from 10 to 16 (fun v wx => v = .bool own ∧ Below W3.heap.size W3 wx)
    case first =>
      go_wp2_with fail
      refine MM3.out.mono ?_
      rintro e w4 ⟨rfl, hb4⟩
      clear c0 c1 c2 c3 c4 c5 d0 d1 d2 d3 d4 d5
      obtain ⟨c0, c1, c2, c3, c4, c5, -⟩ := cellsR (B3.out.go hb4).1
      obtain ⟨d0, d1, d2, d3, d4, d5, -⟩ := cellsR ((hb4.block _ (Array.getElem?_eq_some_iff.1 HY.out).1).trans HY.out)
      cases m with
      | false =>
        go_wp2_with fail
        go_meet
        exact ⟨by rw [HOW.out]; rfl, hb4⟩
      | true =>
        have KO4 := Lib.hid (KO.out _ _ w4 (B3.out.go hb4).2 (HVY.out.below hb4))
        go_wp2_with fail
        refine KO4.out.mono ?_
        rintro e w5 ⟨rfl, hb5⟩
        go_wp2_with fail
        go_meet
        exact ⟨by rw [HOW.out, Bool.true_and], hb4.trans (hb5.mono hb4.size)⟩
    case rest =>
      obtain ⟨rfl, hbc⟩ := hcut
      have BC := Lib.hid (B3.out.go hbc)
      have HYC := Lib.hid ((hbc.block _ (Array.getElem?_eq_some_iff.1 HY.out).1).trans HY.out)
      have HVC := Lib.hid (HVY.out.below hbc)
      clear hbc c0 c1 c2 c3 c4 c5 d0 d1 d2 d3 d4 d5 MM3 B3 HY HVY HOW KO
      have WB := Lib.hid fun x (hx : Below wc.heap.size wc x) => BC.out.2.trans (hx.mono BC.out.2.size)
      have CX := Lib.hid fun x (hx : Below wc.heap.size wc x) => cellsR (BC.out.go hx).1
      have CY := Lib.hid fun x (hx : Below wc.heap.size wc x) => cellsR ((hx.block _ (Array.getElem?_eq_some_iff.1 HYC.out).1).trans HYC.out)
      have HRW := Lib.hid fun x (hx : Below wc.heap.size wc x) => HH.out.below (WB.out x hx)
      have KN := Lib.hid fun x (hx : Below wc.heap.size wc x) => KN0.out x (WB.out x hx)
      have KS := Lib.hid fun x (hx : Below wc.heap.size wc x) v (hv : ReAt (fun _ => True) x v nx) => KS0.out _ _ v _ x hv (HVC.out.below hx)
      have HQQ := Lib.hid (show (own == own) = true from by simp)
      go_wp2_with fail
      refine wp_region_order (fun i => ([SP.eq (.agg #[.int .u8 x0, .int .u64 x1, .int .u64 x2, .int .u64 x3, .int .u64 x4, .slice xl xn xc]), SP.rx nx, SP.eq (.agg #[.int .u8 y0, .int .u64 y1, .int .u64 y2, .int .u64 y3, .int .u64 y4, .slice yl yn yc]), SP.eq (.bool (true)), SP.eq (.bool (true)), SP.eq (.agg #[.int .u8 x0, .int .u64 x1, .int .u64 x2, .int .u64 x3, .int .u64 x4, .slice xl xn xc]), SP.row r, SP.eq (.bool (own)), SP.eq (.bool (own)), SP.eq (.bool (true)), SP.eq (.bool (true)), SP.eq (.bool (true)), SP.eq (.bool (true)), SP.eq (.bool (true)), SP.eq (.bool (true))] : List SP).getD i SP.free) (by kernel_rfl) (by kernel_rfl) ⟨?_, ?_, ?_, ?_, ?_, ?_, ?_, ?_, ?_, ?_, ?_, ?_, ?_, ?_, ?_, trivial⟩ ?_
      · intro a x K out get hb hK
        rw [if_pos (wanted_none rfl)]
        have o1 : a.tmps[1]? = some (.pointer (some ⟨w.heap.size, 0, none⟩)) := out 1 (by kernel_rfl)
        obtain ⟨c0, c1, c2, c3, c4, c5, -⟩ := CX.out x hb
        clear out get
        go_simp
        exact hK _ _ rfl (Below.refl _ _)
      · intro a x K out get hb hK
        rw [if_pos (wanted_none rfl)]
        obtain ⟨y17, hy17, rfl⟩ := get 0 _ _ rfl rfl (by kernel_rfl)
        clear out get
        go_simp
        refine (KN.out x hb).mono ?_
        rintro e w2 ⟨v2, rfl, hv2, hb2⟩
        exact hK _ _ (RxV.of hv2) hb2
      · intro a x K out get hb hK
        rw [if_pos (wanted_none rfl)]
        have o3 : a.tmps[3]? = some (.pointer (some ⟨w2.heap.size, 0, none⟩)) := out 3 (by kernel_rfl)
        obtain ⟨c0, c1, c2, c3, c4, c5, -⟩ := CY.out x hb
        clear out get
        go_simp
        exact hK _ _ rfl (Below.refl _ _)
      · intro a x K out get hb hK
        rw [if_pos (wanted_none rfl)]
        obtain ⟨y18, hy18, ⟨q0, q1, q2, q3, q4, ql, qn, qc, rfl, hr18⟩⟩ := get 1 _ _ rfl rfl (by kernel_rfl)
        obtain ⟨y19, hy19, rfl⟩ := get 2 _ _ rfl rfl (by kernel_rfl)
        clear out get
        go_simp
        refine (KS.out x hb _ hr18).mono ?_
        rintro e w2 ⟨rfl, hb2⟩
        exact hK _ _ rfl hb2
      · intro a x K out get hb hK
        rw [if_pos (wanted_none rfl)]
        obtain ⟨y20, hy20, rfl⟩ := get 3 _ _ rfl rfl (by kernel_rfl)
        clear out get
        go_simp
        exact hK _ _ rfl (Below.refl _ _)
      · intro a x K out get hb hK
        obtain ⟨yg, hyg, rfl⟩ := get 4 _ _ rfl rfl (by kernel_rfl)
        rw [if_pos (by rw [wanted_bool rfl rfl rfl hyg]; rfl)]
        clear hyg
        have o1 : a.tmps[1]? = some (.pointer (some ⟨w.heap.size, 0, none⟩)) := out 1 (by kernel_rfl)
        obtain ⟨c0, c1, c2, c3, c4, c5, -⟩ := CX.out x hb
        clear out get
        go_simp
        exact hK _ _ rfl (Below.refl _ _)
      · intro a x K out get hb hK
        obtain ⟨yg, hyg, rfl⟩ := get 4 _ _ rfl rfl (by kernel_rfl)
        rw [if_pos (by rw [wanted_bool rfl rfl rfl hyg]; rfl)]
        clear hyg
        obtain ⟨y22, hy22, rfl⟩ := get 5 _ _ rfl rfl (by kernel_rfl)
        clear out get
        go_simp
        exact hK _ _ ⟨_, rfl, row_new (HRW.out x hb)⟩ (bel_al _ _)
      · intro a x K out get hb hK
        obtain ⟨yg, hyg, rfl⟩ := get 4 _ _ rfl rfl (by kernel_rfl)
        rw [if_pos (by rw [wanted_bool rfl rfl rfl hyg]; rfl)]
        clear hyg
        obtain ⟨y23, hy23, ⟨g23, rfl, hrow23⟩⟩ := get 6 _ _ rfl rfl (by kernel_rfl)
        clear out get
        go_simp
        refine (KI.out _ _ hrow23).mono ?_
        rintro e w2 ⟨rfl, hb2⟩
        exact hK _ _ rfl hb2
      · intro a x K out get hb hK
        obtain ⟨yg, hyg, rfl⟩ := get 4 _ _ rfl rfl (by kernel_rfl)
        rw [if_pos (by rw [wanted_bool rfl rfl rfl hyg]; rfl)]
        clear hyg
        have o4 : a.tmps[4]? = some (.bool own) := out 4 (by kernel_rfl)
        clear out get
        go_simp
        exact hK _ _ rfl (Below.refl _ _)
      · intro a x K out get hb hK
        obtain ⟨yg, hyg, rfl⟩ := get 4 _ _ rfl rfl (by kernel_rfl)
        rw [if_pos (by rw [wanted_bool rfl rfl rfl hyg]; rfl)]
        clear hyg
        obtain ⟨y24, hy24, rfl⟩ := get 7 _ _ rfl rfl (by kernel_rfl)
        obtain ⟨y25, hy25, rfl⟩ := get 8 _ _ rfl rfl (by kernel_rfl)
        clear out get
        have hqq := HQQ.out
        go_simp
        exact hK _ _ rfl (Below.refl _ _)
      · intro a x K out get hb hK
        rw [if_pos (wanted_none rfl)]
        obtain ⟨y21, hy21, rfl⟩ := get 4 _ _ rfl rfl (by kernel_rfl)
        obtain ⟨y26, hy26, rfl⟩ := get 9 _ _ rfl rfl (by kernel_rfl)
        clear out get
        go_simp
        exact hK _ _ rfl (Below.refl _ _)
      · intro a x K out get hb hK
        rw [if_pos (wanted_none rfl)]
        obtain ⟨y27, hy27, rfl⟩ := get 10 _ _ rfl rfl (by kernel_rfl)
        clear out get
        go_simp
        exact hK _ _ rfl (Below.refl _ _)
      · intro a x K out get hb hK
        obtain ⟨yg, hyg, rfl⟩ := get 11 _ _ rfl rfl (by kernel_rfl)
        rw [if_pos (by rw [wanted_bool rfl rfl rfl hyg]; rfl)]
        clear hyg
        clear out get
        go_simp
        refine (KA.out x).mono ?_
        rintro e w2 ⟨rfl, hb2⟩
        exact hK _ _ rfl hb2
      · intro a x K out get hb hK
        rw [if_pos (wanted_none rfl)]
        obtain ⟨y28, hy28, rfl⟩ := get 11 _ _ rfl rfl (by kernel_rfl)
        obtain ⟨y29, hy29, rfl⟩ := get 12 _ _ rfl rfl (by kernel_rfl)
        clear out get
        go_simp
        exact hK _ _ rfl (Below.refl _ _)
      · intro a x K out get hb hK
        rw [if_pos (wanted_none rfl)]
        obtain ⟨y30, hy30, rfl⟩ := get 13 _ _ rfl rfl (by kernel_rfl)
        clear out get
        go_simp
        exact hK _ _ rfl (Below.refl _ _)
      refine ao_fin (isD := fun s => (decide (17 ≤ s) && decide (s ≤ 30)) || decide (s = 2)) (by kernel_rfl) ?_
      intro f x hv hb
      have h2 : f 2 = _ := hv 14 _ _ rfl rfl
      have HB := Lib.hid (WB.out x hb)
      clear hv hb
      simp only [frm]
      simp
      rw [h2]
      generalize f 17 = u17 at *
      generalize f 18 = u18 at *
      generalize f 19 = u19 at *
      generalize f 20 = u20 at *
      generalize f 21 = u21 at *
      generalize f 22 = u22 at *
      generalize f 23 = u23 at *
      generalize f 24 = u24 at *
      generalize f 25 = u25 at *
      generalize f 26 = u26 at *
      generalize f 27 = u27 at *
      generalize f 28 = u28 at *
      generalize f 29 = u29 at *
      generalize f 30 = u30 at *
      clear h2 f
      go_wp2
      go_ret
      exact ⟨rfl, HB.out⟩
end Go.Proofs.YtfmdcnfniimkoaaGreat
/- quilllaw08.NormKeeps, walked. Made by wip/r8-w.py. -/
namespace Go.Proofs.YtfmdcnfniimkoaaGreat
open Go.RowKit
theorem size_in {r : Rx} (h : r.size ≤ 2000) : wrap64 ((Rx.sizes [r] : Nat) : Int) = (r.size : Int) := by
  have : Rx.sizes [r] = r.size := by simp [Rx.sizes]
  rw [this, IntWalk.wrap64_in _ (by omega)]
set_option maxHeartbeats 8000000 in
set_option maxRecDepth 100000 in
theorem normKeeps_walk (hRead : ReadC) {ok : Nat → Prop} (r : Rx) (v : Value) (w : World) (h : ReAt ok w v r) (hsz : r.size ≤ 1048576) :
    Calls Tryz.prog 5 #[v] w fun e w' => e = .returned (.bool true) ∧ Below w.heap.size w w' := by
  obtain ⟨x0, x1, x2, x3, x4, xl, xn, xc, rfl⟩ := cells_re h
  have G1 := Lib.hid fun W (hb : Below w.heap.size w W) => great_any r 200 _ W (h.below hb) (by decide)
  have HM := Lib.hid (fun h => mgreat_200 (r := r) h hsz)
  have MM := Lib.hid fun (hz : r.size ≤ 200) W (hb : Below w.heap.size w W) => refMay_any r _ W (by omega) (h.below hb)
  have KA := Lib.hid (awake8_any hRead)
  have HH := Lib.hid h
  have B := Lib.hid (Bx.new w x0 x1 x2 x3 x4 xl xn xc)
  have KN0 := Lib.hid fun W (hb : Below w.heap.size w W) => normL_any r _ W (h.below hb)
  have hmay := fun hm => may_ex h hm
  have HE := Lib.hid hmay
  have R7U := Lib.hid fun (hz : r.size ≤ 200) W (hb : Below w.heap.size w W) => ref7Null r _ W (by omega) (h.below hb)
  have R7V := Lib.hid fun (hz : r.size ≤ 200) W (hb : Below w.heap.size w W) => ref7Void r _ W (by omega) (h.below hb)
  have R7F := Lib.hid fun (hz : r.size ≤ 200) W (hb : Below w.heap.size w W) => ref7First r _ W (by omega) (h.below hb)
  clear h hRead hmay
  obtain ⟨m, hm⟩ : ∃ m, mayR r = m := ⟨_, rfl⟩
  rw [hm] at MM HE
  clear hm
  go_enter Tryz.func5, Tryz.ntmps5
  go_wp2_with fail
  refine (G1.out _ B.out.2).mono ?_
  rintro e w' ⟨⟨p, rfl, hp⟩, hb⟩
  replace B := Lib.hid (B.out.go hb)
  have HP := Lib.hid hp
  clear hb hp
  cases p with
  | true =>
    go_wp2_with fail
    refine (KA.out _).mono ?_
    rintro e w2 ⟨rfl, hb⟩
    have hB := (B.out.go hb).2
    go_wp2
    go_ret
    exact ⟨rfl, hB⟩
  | false =>
    obtain ⟨c0, c1, c2, c3, c4, c5, -⟩ := cellsR B.out.1
    have hz := HM.out HP.out
    go_wp2_with fail
    refine (MM.out hz _ B.out.2).mono ?_
    rintro e w1 ⟨rfl, hb⟩
    replace B := Lib.hid (B.out.go hb)
    clear hb c0 c1 c2 c3 c4 c5
    cases m with
    | false =>
      go_wp2_with fail
      refine (KA.out _).mono ?_
      rintro e w2 ⟨rfl, hb⟩
      have hB := (B.out.go hb).2
      go_wp2
      go_ret
      exact ⟨rfl, hB⟩
    | true =>
      obtain ⟨e0, he0, we, hs0⟩ := HE.out rfl
      have hsz0 : e0.size ≤ 200 := by rw [← Ex.size_rx, he0]; exact hz
      have hw1 := nf_wf e0 we
      have hs1 := nf_size e0
      obtain ⟨a1, a2, a3⟩ := nf_alike e0 we
      have ex1 : exX (nfE e0).rx = some (nfE e0) := exX_of hw1 (by omega)
      have ex0 : exX r = some e0 := by rw [← he0]; exact exX_of we hs0
      have hnx : normX r = (nfE e0).rx := by rw [← he0]; exact normX_of we hs0
      have hnn : normX (nfE e0).rx = (nfE e0).rx := by rw [normX_of hw1 (by omega), nf_again e0 we]
      have hmay1 : mayR (nfE e0).rx = true := may_wf hw1 (by omega)
      have his : isX (nfE e0).rx = true := by unfold isX; rw [hnn, hmay1, (sameR_iff _ _).2 rfl]; rfl
      have hu1 : nulX (nfE e0).rx = e0.nul := by unfold nulX; rw [ex1]; exact a1
      have hu0 : nulX r = e0.nul := by unfold nulX; rw [ex0]; rfl
      have hv1 : voidX (nfE e0).rx = !e0.fit := by unfold voidX; rw [ex1]; simp [a2]
      have hv0 : voidX r = !e0.fit := by unfold voidX; rw [ex0]; rfl
      have hf1 : fstX (nfE e0).rx = e0.fst := by unfold fstX; rw [ex1]; exact a3
      have hf0 : fstX r = e0.fst := by unfold fstX; rw [ex0]; rfl
      have hkd := nf_void e0 we
      have hsz1 : (nfE e0).rx.size ≤ r.size := by rw [Ex.size_rx, ← he0, Ex.size_rx]; exact hs1
      rw [hnx] at KN0
      have RU1 := Lib.hid (R7U.out hz)
      have RV1 := Lib.hid (R7V.out hz)
      have RF1 := Lib.hid (R7F.out hz)
      rw [hu0] at RU1
      rw [hv0] at RV1
      rw [hf0] at RF1
      obtain ⟨k1, s1, ks1, hform⟩ := rx_form (nfE e0)
      have hkemp := kind_emp hform
      rw [hkd] at hkemp
      have KN1 := Lib.hid fun (ok : Nat → Prop) v W (h : ReAt ok W v (nfE e0).rx) => normL_any (nfE e0).rx v W h
      rw [hnn] at KN1
      have KI := Lib.hid fun g W (h : RowAt (fun _ => True) W (some ⟨g, 0, none⟩) [(nfE e0).rx]) => isL_any [(nfE e0).rx] (some ⟨g, 0, none⟩) 1 W (by simp) h
      rw [show [(nfE e0).rx].all isX = true from by simp [his], show [(nfE e0).rx].length = 1 from rfl] at KI
      have KU := Lib.hid fun g W (h : RowAt (fun _ => True) W (some ⟨g, 0, none⟩) [(nfE e0).rx]) => nullX_any [(nfE e0).rx] (some ⟨g, 0, none⟩) 1 W (by simp) h
      rw [show [(nfE e0).rx].all nulX = e0.nul from by simp [hu1], show [(nfE e0).rx].length = 1 from rfl] at KU
      have KV := Lib.hid fun g W (h : RowAt (fun _ => True) W (some ⟨g, 0, none⟩) [(nfE e0).rx]) => voidX_any [(nfE e0).rx] (some ⟨g, 0, none⟩) 1 W (by simp) h
      rw [any_void, show [(nfE e0).rx].any voidX = !e0.fit from by simp [hv1], show [(nfE e0).rx].length = 1 from rfl] at KV
      have KF1 := Lib.hid fun (ok : Nat → Prop) v W (h : ReAt ok W v (nfE e0).rx) => firstX_any (nfE e0).rx v W h
      rw [hf1] at KF1
      have KZ1 := Lib.hid fun g W (h : RowAt (fun _ => True) W (some ⟨g, 0, none⟩) [(nfE e0).rx]) => sizeX [(nfE e0).rx] (some ⟨g, 0, none⟩) 1 W (by simp) h
      have KZ2 := Lib.hid fun g W (h : RowAt (fun _ => True) W (some ⟨g, 0, none⟩) [r]) => sizeX [r] (some ⟨g, 0, none⟩) 1 W (by simp) h
      rw [size_in (by omega), show [(nfE e0).rx].length = 1 from rfl] at KZ1
      rw [size_in (by omega), show [r].length = 1 from rfl] at KZ2
      have HLE := Lib.hid hsz1
      have KS1 := Lib.hid fun (ok1 ok2 : Nat → Prop) v u W (h : ReAt ok1 W v (nfE e0).rx) (h' : ReAt ok2 W u (nfE e0).rx) => refSame (nfE e0).rx (nfE e0).rx v u W h h'
      rw [(sameR_iff (nfE e0).rx (nfE e0).rx).2 rfl] at KS1
      have QNU := Lib.hid (show (e0.nul == e0.nul) = true from by simp)
      have QVO := Lib.hid (show ((!e0.fit) == (!e0.fit)) = true from by simp)
      have QFS := Lib.hid (eqW_yes e0.fst)
      have HFORM := Lib.hid hform
      clear he0 we hs0 hw1 hs1 a1 a2 a3 ex1 ex0 hnx hnn hmay1 his hu1 hu0 hv1 hv0 hf1 hf0 hkd R7U R7V R7F hsz0 hsz1 hform hz
      generalize (nfE e0).rx = nx at *
      generalize e0.nul = nu at *
      generalize (!e0.fit) = vo at *
      generalize e0.fst = fs at *
      generalize nx.size = n1 at *
      generalize r.size = n2 at *
      obtain ⟨fs0, fs1, fs2, fs3⟩ := fs
      simp only [Ws.v] at KF1 RF1 QFS
      obtain ⟨c0, c1, c2, c3, c4, c5, -⟩ := cellsR B.out.1
      go_wp2_with fail
      refine (KN0.out _ B.out.2).mono ?_
      rintro e w2 ⟨v2, rfl, hv2, hb⟩
      obtain ⟨y0, y1, y2, y3, y4, yl, yn, yc, rfl⟩ := cells_re hv2
      have QKD : Hid ((y0 == 1) = vo) := Lib.hid (by
        have h2 := hv2
        rw [HFORM.out] at h2
        obtain ⟨_, _, al9, cap9, heq, _⟩ := h2
        simp at heq
        rw [heq.1]
        exact hkemp)
      replace B := Lib.hid (B.out.go hb)
      have hal := (Below.refl _ w2).alloc (Nat.le_refl _) (.cells #[.int .u8 y0, .int .u64 y1, .int .u64 y2, .int .u64 y3, .int .u64 y4, .slice yl yn yc] 27)
      have HY := Lib.hid (blk_new w2 (.cells #[.int .u8 y0, .int .u64 y1, .int .u64 y2, .int .u64 y3, .int .u64 y4, .slice yl yn yc] 27))
      have HVY := Lib.hid (hv2.below hal)
      have B3 := Lib.hid (B.out.go hal)
      clear hb c0 c1 c2 c3 c4 c5 hv2 hal hkemp HFORM KN0
      obtain ⟨c0, c1, c2, c3, c4, c5, -⟩ := cellsR B3.out.1
      obtain ⟨d0, d1, d2, d3, d4, d5, -⟩ := cellsR HY.out
      go_upto_region 4 with fail
      obtain ⟨W3, hW3⟩ : ∃ x, x = w2.alloc (.cells #[.int .u8 y0, .int .u64 y1, .int .u64 y2, .int .u64 y3, .int .u64 y4, .slice yl yn yc] 27) := ⟨_, rfl⟩
      rw [← hW3] at HVY B3 HY c0 c1 c2 c3 c4 c5 d0 d1 d2 d3 d4 d5 ⊢
      clear hW3 c0 c1 c2 c3 c4 c5 d0 d1 d2 d3 d4 d5
      go_cut [33] from 14 to 33 (fun v wx => v = .bool false ∧ Below W3.heap.size W3 wx)
      case first =>
        have WB := Lib.hid fun x (hx : Below W3.heap.size W3 x) => B3.out.2.trans (hx.mono B3.out.2.size)
        have CX := Lib.hid fun x (hx : Below W3.heap.size W3 x) => cellsR (B3.out.go hx).1
        have CY := Lib.hid fun x (hx : Below W3.heap.size W3 x) => cellsR ((hx.block _ (Array.getElem?_eq_some_iff.1 HY.out).1).trans HY.out)
        have HRW := Lib.hid fun x (hx : Below W3.heap.size W3 x) => HH.out.below (WB.out x hx)
        have HRY := Lib.hid fun x (hx : Below W3.heap.size W3 x) => HVY.out.below hx
        have KN := Lib.hid fun x (hx : Below W3.heap.size W3 x) => KN1.out _ _ x (HRY.out x hx)
        have KS := Lib.hid fun x (hx : Below W3.heap.size W3 x) v (hv : ReAt (fun _ => True) x v nx) => KS1.out _ _ v _ x hv (HRY.out x hx)
        have RU := Lib.hid fun x (hx : Below W3.heap.size W3 x) => RU1.out x (WB.out x hx)
        have RV := Lib.hid fun x (hx : Below W3.heap.size W3 x) => RV1.out x (WB.out x hx)
        have RF := Lib.hid fun x (hx : Below W3.heap.size W3 x) => RF1.out x (WB.out x hx)
        have KF := Lib.hid fun x (hx : Below W3.heap.size W3 x) => KF1.out _ _ x (HRY.out x hx)
        refine wp_region_order (fun i => ([SP.eq (.agg #[.int .u8 y0, .int .u64 y1, .int .u64 y2, .int .u64 y3, .int .u64 y4, .slice yl yn yc]), SP.row nx, SP.eq (.bool (true)), SP.eq (.bool (false)), SP.eq (.bool (false)), SP.eq (.agg #[.int .u8 y0, .int .u64 y1, .int .u64 y2, .int .u64 y3, .int .u64 y4, .slice yl yn yc]), SP.rx nx, SP.eq (.agg #[.int .u8 y0, .int .u64 y1, .int .u64 y2, .int .u64 y3, .int .u64 y4, .slice yl yn yc]), SP.eq (.bool (true)), SP.eq (.bool (false)), SP.eq (.bool (false)), SP.eq (.bool (false)), SP.eq (.agg #[.int .u8 y0, .int .u64 y1, .int .u64 y2, .int .u64 y3, .int .u64 y4, .slice yl yn yc]), SP.row nx, SP.eq (.int .i64 (n1 : Int)), SP.eq (.agg #[.int .u8 x0, .int .u64 x1, .int .u64 x2, .int .u64 x3, .int .u64 x4, .slice xl xn xc]), SP.row r, SP.eq (.int .i64 (n2 : Int)), SP.eq (.bool (false)), SP.eq (.bool (false))] : List SP).getD i SP.free) (by kernel_rfl) (by kernel_rfl) ⟨?_, ?_, ?_, ?_, ?_, ?_, ?_, ?_, ?_, ?_, ?_, ?_, ?_, ?_, ?_, ?_, ?_, ?_, ?_, ?_, trivial⟩ ?_
        · intro a x K out get hb hK
          rw [if_pos (wanted_none rfl)]
          have o3 : a.tmps[3]? = some (.pointer (some ⟨w2.heap.size, 0, none⟩)) := out 3 (by kernel_rfl)
          obtain ⟨c0, c1, c2, c3, c4, c5, -⟩ := CY.out x hb
          clear out get
          go_simp
          exact hK _ _ rfl (Below.refl _ _)
        · intro a x K out get hb hK
          rw [if_pos (wanted_none rfl)]
          obtain ⟨y14, hy14, rfl⟩ := get 0 _ _ rfl rfl (by kernel_rfl)
          clear out get
          go_simp
          exact hK _ _ ⟨_, rfl, row_new (HRY.out x hb)⟩ (bel_al _ _)
        · intro a x K out get hb hK
          rw [if_pos (wanted_none rfl)]
          obtain ⟨y15, hy15, ⟨g15, rfl, hrow15⟩⟩ := get 1 _ _ rfl rfl (by kernel_rfl)
          clear out get
          go_simp
          refine (KI.out _ _ hrow15).mono ?_
          rintro e w2 ⟨rfl, hb2⟩
          exact hK _ _ rfl hb2
        · intro a x K out get hb hK
          rw [if_pos (wanted_none rfl)]
          obtain ⟨y16, hy16, rfl⟩ := get 2 _ _ rfl rfl (by kernel_rfl)
          clear out get
          go_simp
          exact hK _ _ rfl (Below.refl _ _)
        · intro a x K out get hb hK
          rw [if_pos (wanted_none rfl)]
          obtain ⟨y17, hy17, rfl⟩ := get 3 _ _ rfl rfl (by kernel_rfl)
          clear out get
          go_simp
          exact hK _ _ rfl (Below.refl _ _)
        · intro a x K out get hb hK
          obtain ⟨yg, hyg, rfl⟩ := get 4 _ _ rfl rfl (by kernel_rfl)
          rw [if_pos (by rw [wanted_bool rfl rfl rfl hyg]; rfl)]
          clear hyg
          have o3 : a.tmps[3]? = some (.pointer (some ⟨w2.heap.size, 0, none⟩)) := out 3 (by kernel_rfl)
          obtain ⟨c0, c1, c2, c3, c4, c5, -⟩ := CY.out x hb
          clear out get
          go_simp
          exact hK _ _ rfl (Below.refl _ _)
        · intro a x K out get hb hK
          obtain ⟨yg, hyg, rfl⟩ := get 4 _ _ rfl rfl (by kernel_rfl)
          rw [if_pos (by rw [wanted_bool rfl rfl rfl hyg]; rfl)]
          clear hyg
          obtain ⟨y19, hy19, rfl⟩ := get 5 _ _ rfl rfl (by kernel_rfl)
          clear out get
          go_simp
          refine (KN.out x hb).mono ?_
          rintro e w2 ⟨v2, rfl, hv2, hb2⟩
          exact hK _ _ (RxV.of hv2) hb2
        · intro a x K out get hb hK
          obtain ⟨yg, hyg, rfl⟩ := get 4 _ _ rfl rfl (by kernel_rfl)
          rw [if_pos (by rw [wanted_bool rfl rfl rfl hyg]; rfl)]
          clear hyg
          have o3 : a.tmps[3]? = some (.pointer (some ⟨w2.heap.size, 0, none⟩)) := out 3 (by kernel_rfl)
          obtain ⟨c0, c1, c2, c3, c4, c5, -⟩ := CY.out x hb
          clear out get
          go_simp
          exact hK _ _ rfl (Below.refl _ _)
        · intro a x K out get hb hK
          obtain ⟨yg, hyg, rfl⟩ := get 4 _ _ rfl rfl (by kernel_rfl)
          rw [if_pos (by rw [wanted_bool rfl rfl rfl hyg]; rfl)]
          clear hyg
          obtain ⟨y20, hy20, ⟨q0, q1, q2, q3, q4, ql, qn, qc, rfl, hr20⟩⟩ := get 6 _ _ rfl rfl (by kernel_rfl)
          obtain ⟨y21, hy21, rfl⟩ := get 7 _ _ rfl rfl (by kernel_rfl)
          clear out get
          go_simp
          refine (KS.out x hb _ hr20).mono ?_
          rintro e w2 ⟨rfl, hb2⟩
          exact hK _ _ rfl hb2
        · intro a x K out get hb hK
          obtain ⟨yg, hyg, rfl⟩ := get 4 _ _ rfl rfl (by kernel_rfl)
          rw [if_pos (by rw [wanted_bool rfl rfl rfl hyg]; rfl)]
          clear hyg
          obtain ⟨y22, hy22, rfl⟩ := get 8 _ _ rfl rfl (by kernel_rfl)
          clear out get
          go_simp
          exact hK _ _ rfl (Below.refl _ _)
        · intro a x K out get hb hK
          rw [if_pos (wanted_none rfl)]
          obtain ⟨y18, hy18, rfl⟩ := get 4 _ _ rfl rfl (by kernel_rfl)
          obtain ⟨y23, hy23, rfl⟩ := get 9 _ _ rfl rfl (by kernel_rfl)
          clear out get
          go_simp
          exact hK _ _ rfl (Below.refl _ _)
        · intro a x K out get hb hK
          rw [if_pos (wanted_none rfl)]
          obtain ⟨y24, hy24, rfl⟩ := get 10 _ _ rfl rfl (by kernel_rfl)
          clear out get
          go_simp
          exact hK _ _ rfl (Below.refl _ _)
        · intro a x K out get hb hK
          obtain ⟨yg, hyg, rfl⟩ := get 11 _ _ rfl rfl (by kernel_rfl)
          rw [if_pos (by rw [wanted_bool rfl rfl rfl hyg]; rfl)]
          clear hyg
          have o3 : a.tmps[3]? = some (.pointer (some ⟨w2.heap.size, 0, none⟩)) := out 3 (by kernel_rfl)
          obtain ⟨c0, c1, c2, c3, c4, c5, -⟩ := CY.out x hb
          clear out get
          go_simp
          exact hK _ _ rfl (Below.refl _ _)
        · intro a x K out get hb hK
          obtain ⟨yg, hyg, rfl⟩ := get 11 _ _ rfl rfl (by kernel_rfl)
          rw [if_pos (by rw [wanted_bool rfl rfl rfl hyg]; rfl)]
          clear hyg
          obtain ⟨y26, hy26, rfl⟩ := get 12 _ _ rfl rfl (by kernel_rfl)
          clear out get
          go_simp
          exact hK _ _ ⟨_, rfl, row_new (HRY.out x hb)⟩ (bel_al _ _)
        · intro a x K out get hb hK
          obtain ⟨yg, hyg, rfl⟩ := get 11 _ _ rfl rfl (by kernel_rfl)
          rw [if_pos (by rw [wanted_bool rfl rfl rfl hyg]; rfl)]
          clear hyg
          obtain ⟨y27, hy27, ⟨g27, rfl, hrow27⟩⟩ := get 13 _ _ rfl rfl (by kernel_rfl)
          clear out get
          go_simp
          refine (KZ1.out _ _ hrow27).mono ?_
          rintro e w2 ⟨rfl, hb2⟩
          exact hK _ _ rfl hb2
        · intro a x K out get hb hK
          obtain ⟨yg, hyg, rfl⟩ := get 11 _ _ rfl rfl (by kernel_rfl)
          rw [if_pos (by rw [wanted_bool rfl rfl rfl hyg]; rfl)]
          clear hyg
          have o1 : a.tmps[1]? = some (.pointer (some ⟨w.heap.size, 0, none⟩)) := out 1 (by kernel_rfl)
          obtain ⟨c0, c1, c2, c3, c4, c5, -⟩ := CX.out x hb
          clear out get
          go_simp
          exact hK _ _ rfl (Below.refl _ _)
        · intro a x K out get hb hK
          obtain ⟨yg, hyg, rfl⟩ := get 11 _ _ rfl rfl (by kernel_rfl)
          rw [if_pos (by rw [wanted_bool rfl rfl rfl hyg]; rfl)]
          clear hyg
          obtain ⟨y29, hy29, rfl⟩ := get 15 _ _ rfl rfl (by kernel_rfl)
          clear out get
          go_simp
          exact hK _ _ ⟨_, rfl, row_new (HRW.out x hb)⟩ (bel_al _ _)
        · intro a x K out get hb hK
          obtain ⟨yg, hyg, rfl⟩ := get 11 _ _ rfl rfl (by kernel_rfl)
          rw [if_pos (by rw [wanted_bool rfl rfl rfl hyg]; rfl)]
          clear hyg
          obtain ⟨y30, hy30, ⟨g30, rfl, hrow30⟩⟩ := get 16 _ _ rfl rfl (by kernel_rfl)
          clear out get
          go_simp
          refine (KZ2.out _ _ hrow30).mono ?_
          rintro e w2 ⟨rfl, hb2⟩
          exact hK _ _ rfl hb2
        · intro a x K out get hb hK
          obtain ⟨yg, hyg, rfl⟩ := get 11 _ _ rfl rfl (by kernel_rfl)
          rw [if_pos (by rw [wanted_bool rfl rfl rfl hyg]; rfl)]
          clear hyg
          obtain ⟨y28, hy28, rfl⟩ := get 14 _ _ rfl rfl (by kernel_rfl)
          obtain ⟨y31, hy31, rfl⟩ := get 17 _ _ rfl rfl (by kernel_rfl)
          clear out get
          have hle := HLE.out
          have hnl : ¬ (n2 : Int) < (n1 : Int) := by omega
          go_simp
          exact hK _ _ rfl (Below.refl _ _)
        · intro a x K out get hb hK
          rw [if_pos (wanted_none rfl)]
          obtain ⟨y25, hy25, rfl⟩ := get 11 _ _ rfl rfl (by kernel_rfl)
          obtain ⟨y32, hy32, rfl⟩ := get 18 _ _ rfl rfl (by kernel_rfl)
          clear out get
          go_simp
          exact hK _ _ rfl (Below.refl _ _)
        refine ao_fin (isD := fun s => decide (14 ≤ s) && decide (s ≤ 33)) (by kernel_rfl) ?_
        intro f x hv hb
        have h33 : f 33 = _ := hv 19 _ _ rfl rfl
        have HB := Lib.hid hb
        clear hv hb
        simp only [frm]
        simp
        rw [h33]
        generalize f 14 = u14 at *
        generalize f 15 = u15 at *
        generalize f 16 = u16 at *
        generalize f 17 = u17 at *
        generalize f 18 = u18 at *
        generalize f 19 = u19 at *
        generalize f 20 = u20 at *
        generalize f 21 = u21 at *
        generalize f 22 = u22 at *
        generalize f 23 = u23 at *
        generalize f 24 = u24 at *
        generalize f 25 = u25 at *
        generalize f 26 = u26 at *
        generalize f 27 = u27 at *
        generalize f 28 = u28 at *
        generalize f 29 = u29 at *
        generalize f 30 = u30 at *
        generalize f 31 = u31 at *
        generalize f 32 = u32 at *
        generalize f 33 = u33 at *
        clear h33 f
        go_wp2_with fail
        go_meet
        exact ⟨rfl, HB.out⟩
      case rest =>
      obtain ⟨rfl, hbc⟩ := hcut
      have BC := Lib.hid (B3.out.go hbc)
      have HYC := Lib.hid ((hbc.block _ (Array.getElem?_eq_some_iff.1 HY.out).1).trans HY.out)
      have HVC := Lib.hid (HVY.out.below hbc)
      clear hbc B3 HY HVY
      have WB := Lib.hid fun x (hx : Below wc.heap.size wc x) => BC.out.2.trans (hx.mono BC.out.2.size)
      have CX := Lib.hid fun x (hx : Below wc.heap.size wc x) => cellsR (BC.out.go hx).1
      have CY := Lib.hid fun x (hx : Below wc.heap.size wc x) => cellsR ((hx.block _ (Array.getElem?_eq_some_iff.1 HYC.out).1).trans HYC.out)
      have HRW := Lib.hid fun x (hx : Below wc.heap.size wc x) => HH.out.below (WB.out x hx)
      have HRY := Lib.hid fun x (hx : Below wc.heap.size wc x) => HVC.out.below hx
      have KN := Lib.hid fun x (hx : Below wc.heap.size wc x) => KN1.out _ _ x (HRY.out x hx)
      have KS := Lib.hid fun x (hx : Below wc.heap.size wc x) v (hv : ReAt (fun _ => True) x v nx) => KS1.out _ _ v _ x hv (HRY.out x hx)
      have RU := Lib.hid fun x (hx : Below wc.heap.size wc x) => RU1.out x (WB.out x hx)
      have RV := Lib.hid fun x (hx : Below wc.heap.size wc x) => RV1.out x (WB.out x hx)
      have RF := Lib.hid fun x (hx : Below wc.heap.size wc x) => RF1.out x (WB.out x hx)
      have KF := Lib.hid fun x (hx : Below wc.heap.size wc x) => KF1.out _ _ x (HRY.out x hx)
      go_wp2_with fail
      refine wp_region_order (fun i => ([SP.eq (.agg #[.int .u8 y0, .int .u64 y1, .int .u64 y2, .int .u64 y3, .int .u64 y4, .slice yl yn yc]), SP.row nx, SP.eq (.bool (nu)), SP.eq (.agg #[.int .u8 x0, .int .u64 x1, .int .u64 x2, .int .u64 x3, .int .u64 x4, .slice xl xn xc]), SP.eq (.bool (nu)), SP.eq (.bool (true)), SP.eq (.bool (true)), SP.eq (.agg #[.int .u8 y0, .int .u64 y1, .int .u64 y2, .int .u64 y3, .int .u64 y4, .slice yl yn yc]), SP.row nx, SP.eq (.bool (vo)), SP.eq (.agg #[.int .u8 x0, .int .u64 x1, .int .u64 x2, .int .u64 x3, .int .u64 x4, .slice xl xn xc]), SP.eq (.bool (vo)), SP.eq (.bool (true)), SP.eq (.bool (true)), SP.eq (.bool (true)), SP.eq (.agg #[.int .u8 y0, .int .u64 y1, .int .u64 y2, .int .u64 y3, .int .u64 y4, .slice yl yn yc]), SP.eq (.agg #[.int .u64 fs0, .int .u64 fs1, .int .u64 fs2, .int .u64 fs3]), SP.eq (.agg #[.int .u8 x0, .int .u64 x1, .int .u64 x2, .int .u64 x3, .int .u64 x4, .slice xl xn xc]), SP.eq (.agg #[.int .u64 fs0, .int .u64 fs1, .int .u64 fs2, .int .u64 fs3]), SP.eq (.bool (true)), SP.eq (.bool (true)), SP.eq (.bool (true)), SP.eq (.pointer (some ⟨w2.heap.size, 0, none⟩)), SP.eq (.int .u8 y0), SP.eq (.bool (vo)), SP.eq (.agg #[.int .u8 x0, .int .u64 x1, .int .u64 x2, .int .u64 x3, .int .u64 x4, .slice xl xn xc]), SP.eq (.bool (vo)), SP.eq (.bool (true)), SP.eq (.bool (true)), SP.eq (.bool (true)), SP.eq (.bool (true)), SP.eq (.bool (true)), SP.eq (.bool (true))] : List SP).getD i SP.free) (by kernel_rfl) (by kernel_rfl) ⟨?_, ?_, ?_, ?_, ?_, ?_, ?_, ?_, ?_, ?_, ?_, ?_, ?_, ?_, ?_, ?_, ?_, ?_, ?_, ?_, ?_, ?_, ?_, ?_, ?_, ?_, ?_, ?_, ?_, ?_, ?_, ?_, ?_, trivial⟩ ?_
      · intro a x K out get hb hK
        rw [if_pos (wanted_none rfl)]
        have o3 : a.tmps[3]? = some (.pointer (some ⟨w2.heap.size, 0, none⟩)) := out 3 (by kernel_rfl)
        obtain ⟨c0, c1, c2, c3, c4, c5, -⟩ := CY.out x hb
        clear out get
        go_simp
        exact hK _ _ rfl (Below.refl _ _)
      · intro a x K out get hb hK
        rw [if_pos (wanted_none rfl)]
        obtain ⟨y34, hy34, rfl⟩ := get 0 _ _ rfl rfl (by kernel_rfl)
        clear out get
        go_simp
        exact hK _ _ ⟨_, rfl, row_new (HRY.out x hb)⟩ (bel_al _ _)
      · intro a x K out get hb hK
        rw [if_pos (wanted_none rfl)]
        obtain ⟨y35, hy35, ⟨g35, rfl, hrow35⟩⟩ := get 1 _ _ rfl rfl (by kernel_rfl)
        clear out get
        go_simp
        refine (KU.out _ _ hrow35).mono ?_
        rintro e w2 ⟨rfl, hb2⟩
        exact hK _ _ rfl hb2
      · intro a x K out get hb hK
        rw [if_pos (wanted_none rfl)]
        have o1 : a.tmps[1]? = some (.pointer (some ⟨w.heap.size, 0, none⟩)) := out 1 (by kernel_rfl)
        obtain ⟨c0, c1, c2, c3, c4, c5, -⟩ := CX.out x hb
        clear out get
        go_simp
        exact hK _ _ rfl (Below.refl _ _)
      · intro a x K out get hb hK
        rw [if_pos (wanted_none rfl)]
        obtain ⟨y37, hy37, rfl⟩ := get 3 _ _ rfl rfl (by kernel_rfl)
        clear out get
        go_simp
        refine (RU.out x hb).mono ?_
        rintro e w2 ⟨rfl, hb2⟩
        exact hK _ _ rfl hb2
      · intro a x K out get hb hK
        rw [if_pos (wanted_none rfl)]
        obtain ⟨y36, hy36, rfl⟩ := get 2 _ _ rfl rfl (by kernel_rfl)
        obtain ⟨y38, hy38, rfl⟩ := get 4 _ _ rfl rfl (by kernel_rfl)
        clear out get
        have hq := QNU.out
        go_simp
        exact hK _ _ rfl (Below.refl _ _)
      · intro a x K out get hb hK
        rw [if_pos (wanted_none rfl)]
        obtain ⟨y39, hy39, rfl⟩ := get 5 _ _ rfl rfl (by kernel_rfl)
        clear out get
        go_simp
        exact hK _ _ rfl (Below.refl _ _)
      · intro a x K out get hb hK
        obtain ⟨yg, hyg, rfl⟩ := get 6 _ _ rfl rfl (by kernel_rfl)
        rw [if_pos (by rw [wanted_bool rfl rfl rfl hyg]; rfl)]
        clear hyg
        have o3 : a.tmps[3]? = some (.pointer (some ⟨w2.heap.size, 0, none⟩)) := out 3 (by kernel_rfl)
        obtain ⟨c0, c1, c2, c3, c4, c5, -⟩ := CY.out x hb
        clear out get
        go_simp
        exact hK _ _ rfl (Below.refl _ _)
      · intro a x K out get hb hK
        obtain ⟨yg, hyg, rfl⟩ := get 6 _ _ rfl rfl (by kernel_rfl)
        rw [if_pos (by rw [wanted_bool rfl rfl rfl hyg]; rfl)]
        clear hyg
        obtain ⟨y41, hy41, rfl⟩ := get 7 _ _ rfl rfl (by kernel_rfl)
        clear out get
        go_simp
        exact hK _ _ ⟨_, rfl, row_new (HRY.out x hb)⟩ (bel_al _ _)
      · intro a x K out get hb hK
        obtain ⟨yg, hyg, rfl⟩ := get 6 _ _ rfl rfl (by kernel_rfl)
        rw [if_pos (by rw [wanted_bool rfl rfl rfl hyg]; rfl)]
        clear hyg
        obtain ⟨y42, hy42, ⟨g42, rfl, hrow42⟩⟩ := get 8 _ _ rfl rfl (by kernel_rfl)
        clear out get
        go_simp
        refine (KV.out _ _ hrow42).mono ?_
        rintro e w2 ⟨rfl, hb2⟩
        exact hK _ _ rfl hb2
      · intro a x K out get hb hK
        obtain ⟨yg, hyg, rfl⟩ := get 6 _ _ rfl rfl (by kernel_rfl)
        rw [if_pos (by rw [wanted_bool rfl rfl rfl hyg]; rfl)]
        clear hyg
        have o1 : a.tmps[1]? = some (.pointer (some ⟨w.heap.size, 0, none⟩)) := out 1 (by kernel_rfl)
        obtain ⟨c0, c1, c2, c3, c4, c5, -⟩ := CX.out x hb
        clear out get
        go_simp
        exact hK _ _ rfl (Below.refl _ _)
      · intro a x K out get hb hK
        obtain ⟨yg, hyg, rfl⟩ := get 6 _ _ rfl rfl (by kernel_rfl)
        rw [if_pos (by rw [wanted_bool rfl rfl rfl hyg]; rfl)]
        clear hyg
        obtain ⟨y44, hy44, rfl⟩ := get 10 _ _ rfl rfl (by kernel_rfl)
        clear out get
        go_simp
        refine (RV.out x hb).mono ?_
        rintro e w2 ⟨rfl, hb2⟩
        exact hK _ _ rfl hb2
      · intro a x K out get hb hK
        obtain ⟨yg, hyg, rfl⟩ := get 6 _ _ rfl rfl (by kernel_rfl)
        rw [if_pos (by rw [wanted_bool rfl rfl rfl hyg]; rfl)]
        clear hyg
        obtain ⟨y43, hy43, rfl⟩ := get 9 _ _ rfl rfl (by kernel_rfl)
        obtain ⟨y45, hy45, rfl⟩ := get 11 _ _ rfl rfl (by kernel_rfl)
        clear out get
        have hq := QVO.out
        go_simp
        exact hK _ _ rfl (Below.refl _ _)
      · intro a x K out get hb hK
        rw [if_pos (wanted_none rfl)]
        obtain ⟨y40, hy40, rfl⟩ := get 6 _ _ rfl rfl (by kernel_rfl)
        obtain ⟨y46, hy46, rfl⟩ := get 12 _ _ rfl rfl (by kernel_rfl)
        clear out get
        go_simp
        exact hK _ _ rfl (Below.refl _ _)
      · intro a x K out get hb hK
        rw [if_pos (wanted_none rfl)]
        obtain ⟨y47, hy47, rfl⟩ := get 13 _ _ rfl rfl (by kernel_rfl)
        clear out get
        go_simp
        exact hK _ _ rfl (Below.refl _ _)
      · intro a x K out get hb hK
        obtain ⟨yg, hyg, rfl⟩ := get 14 _ _ rfl rfl (by kernel_rfl)
        rw [if_pos (by rw [wanted_bool rfl rfl rfl hyg]; rfl)]
        clear hyg
        have o3 : a.tmps[3]? = some (.pointer (some ⟨w2.heap.size, 0, none⟩)) := out 3 (by kernel_rfl)
        obtain ⟨c0, c1, c2, c3, c4, c5, -⟩ := CY.out x hb
        clear out get
        go_simp
        exact hK _ _ rfl (Below.refl _ _)
      · intro a x K out get hb hK
        obtain ⟨yg, hyg, rfl⟩ := get 14 _ _ rfl rfl (by kernel_rfl)
        rw [if_pos (by rw [wanted_bool rfl rfl rfl hyg]; rfl)]
        clear hyg
        obtain ⟨y49, hy49, rfl⟩ := get 15 _ _ rfl rfl (by kernel_rfl)
        clear out get
        go_simp
        refine (KF.out x hb).mono ?_
        rintro e w2 ⟨rfl, hb2⟩
        exact hK _ _ rfl hb2
      · intro a x K out get hb hK
        obtain ⟨yg, hyg, rfl⟩ := get 14 _ _ rfl rfl (by kernel_rfl)
        rw [if_pos (by rw [wanted_bool rfl rfl rfl hyg]; rfl)]
        clear hyg
        have o1 : a.tmps[1]? = some (.pointer (some ⟨w.heap.size, 0, none⟩)) := out 1 (by kernel_rfl)
        obtain ⟨c0, c1, c2, c3, c4, c5, -⟩ := CX.out x hb
        clear out get
        go_simp
        exact hK _ _ rfl (Below.refl _ _)
      · intro a x K out get hb hK
        obtain ⟨yg, hyg, rfl⟩ := get 14 _ _ rfl rfl (by kernel_rfl)
        rw [if_pos (by rw [wanted_bool rfl rfl rfl hyg]; rfl)]
        clear hyg
        obtain ⟨y51, hy51, rfl⟩ := get 17 _ _ rfl rfl (by kernel_rfl)
        clear out get
        go_simp
        refine (RF.out x hb).mono ?_
        rintro e w2 ⟨rfl, hb2⟩
        exact hK _ _ rfl hb2
      · intro a x K out get hb hK
        obtain ⟨yg, hyg, rfl⟩ := get 14 _ _ rfl rfl (by kernel_rfl)
        rw [if_pos (by rw [wanted_bool rfl rfl rfl hyg]; rfl)]
        clear hyg
        obtain ⟨y50, hy50, rfl⟩ := get 16 _ _ rfl rfl (by kernel_rfl)
        obtain ⟨y52, hy52, rfl⟩ := get 18 _ _ rfl rfl (by kernel_rfl)
        clear out get
        have hq := QFS.out
        go_simp
        exact hK _ _ rfl (Below.refl _ _)
      · intro a x K out get hb hK
        rw [if_pos (wanted_none rfl)]
        obtain ⟨y48, hy48, rfl⟩ := get 14 _ _ rfl rfl (by kernel_rfl)
        obtain ⟨y53, hy53, rfl⟩ := get 19 _ _ rfl rfl (by kernel_rfl)
        clear out get
        go_simp
        exact hK _ _ rfl (Below.refl _ _)
      · intro a x K out get hb hK
        rw [if_pos (wanted_none rfl)]
        obtain ⟨y54, hy54, rfl⟩ := get 20 _ _ rfl rfl (by kernel_rfl)
        clear out get
        go_simp
        exact hK _ _ rfl (Below.refl _ _)
      · intro a x K out get hb hK
        obtain ⟨yg, hyg, rfl⟩ := get 21 _ _ rfl rfl (by kernel_rfl)
        rw [if_pos (by rw [wanted_bool rfl rfl rfl hyg]; rfl)]
        clear hyg
        have o3 : a.tmps[3]? = some (.pointer (some ⟨w2.heap.size, 0, none⟩)) := out 3 (by kernel_rfl)
        clear out get
        go_simp
        exact hK _ _ rfl (Below.refl _ _)
      · intro a x K out get hb hK
        obtain ⟨yg, hyg, rfl⟩ := get 21 _ _ rfl rfl (by kernel_rfl)
        rw [if_pos (by rw [wanted_bool rfl rfl rfl hyg]; rfl)]
        clear hyg
        obtain ⟨y56, hy56, rfl⟩ := get 22 _ _ rfl rfl (by kernel_rfl)
        clear out get
        obtain ⟨c0, -⟩ := CY.out x hb
        go_simp
        exact hK _ _ rfl (Below.refl _ _)
      · intro a x K out get hb hK
        obtain ⟨yg, hyg, rfl⟩ := get 21 _ _ rfl rfl (by kernel_rfl)
        rw [if_pos (by rw [wanted_bool rfl rfl rfl hyg]; rfl)]
        clear hyg
        obtain ⟨y57, hy57, rfl⟩ := get 23 _ _ rfl rfl (by kernel_rfl)
        clear out get
        have hq := QKD.out
        go_simp
        exact hK _ _ rfl (Below.refl _ _)
      · intro a x K out get hb hK
        obtain ⟨yg, hyg, rfl⟩ := get 21 _ _ rfl rfl (by kernel_rfl)
        rw [if_pos (by rw [wanted_bool rfl rfl rfl hyg]; rfl)]
        clear hyg
        have o1 : a.tmps[1]? = some (.pointer (some ⟨w.heap.size, 0, none⟩)) := out 1 (by kernel_rfl)
        obtain ⟨c0, c1, c2, c3, c4, c5, -⟩ := CX.out x hb
        clear out get
        go_simp
        exact hK _ _ rfl (Below.refl _ _)
      · intro a x K out get hb hK
        obtain ⟨yg, hyg, rfl⟩ := get 21 _ _ rfl rfl (by kernel_rfl)
        rw [if_pos (by rw [wanted_bool rfl rfl rfl hyg]; rfl)]
        clear hyg
        obtain ⟨y59, hy59, rfl⟩ := get 25 _ _ rfl rfl (by kernel_rfl)
        clear out get
        go_simp
        refine (RV.out x hb).mono ?_
        rintro e w2 ⟨rfl, hb2⟩
        exact hK _ _ rfl hb2
      · intro a x K out get hb hK
        obtain ⟨yg, hyg, rfl⟩ := get 21 _ _ rfl rfl (by kernel_rfl)
        rw [if_pos (by rw [wanted_bool rfl rfl rfl hyg]; rfl)]
        clear hyg
        obtain ⟨y58, hy58, rfl⟩ := get 24 _ _ rfl rfl (by kernel_rfl)
        obtain ⟨y60, hy60, rfl⟩ := get 26 _ _ rfl rfl (by kernel_rfl)
        clear out get
        have hq := QVO.out
        go_simp
        exact hK _ _ rfl (Below.refl _ _)
      · intro a x K out get hb hK
        rw [if_pos (wanted_none rfl)]
        obtain ⟨y55, hy55, rfl⟩ := get 21 _ _ rfl rfl (by kernel_rfl)
        obtain ⟨y61, hy61, rfl⟩ := get 27 _ _ rfl rfl (by kernel_rfl)
        clear out get
        go_simp
        exact hK _ _ rfl (Below.refl _ _)
      · intro a x K out get hb hK
        rw [if_pos (wanted_none rfl)]
        obtain ⟨y62, hy62, rfl⟩ := get 28 _ _ rfl rfl (by kernel_rfl)
        clear out get
        go_simp
        exact hK _ _ rfl (Below.refl _ _)
      · intro a x K out get hb hK
        obtain ⟨yg, hyg, rfl⟩ := get 29 _ _ rfl rfl (by kernel_rfl)
        rw [if_pos (by rw [wanted_bool rfl rfl rfl hyg]; rfl)]
        clear hyg
        clear out get
        go_simp
        refine (KA.out x).mono ?_
        rintro e w2 ⟨rfl, hb2⟩
        exact hK _ _ rfl hb2
      · intro a x K out get hb hK
        rw [if_pos (wanted_none rfl)]
        obtain ⟨y63, hy63, rfl⟩ := get 29 _ _ rfl rfl (by kernel_rfl)
        obtain ⟨y64, hy64, rfl⟩ := get 30 _ _ rfl rfl (by kernel_rfl)
        clear out get
        go_simp
        exact hK _ _ rfl (Below.refl _ _)
      · intro a x K out get hb hK
        rw [if_pos (wanted_none rfl)]
        obtain ⟨y65, hy65, rfl⟩ := get 31 _ _ rfl rfl (by kernel_rfl)
        clear out get
        go_simp
        exact hK _ _ rfl (Below.refl _ _)
      refine ao_fin (isD := fun s => (decide (34 ≤ s) && decide (s ≤ 65)) || decide (s = 2)) (by kernel_rfl) ?_
      intro f x hv hb
      have h2 : f 2 = _ := hv 32 _ _ rfl rfl
      have HB := Lib.hid (WB.out x hb)
      clear hv hb
      simp only [frm]
      simp
      rw [h2]
      generalize f 34 = u34 at *
      generalize f 35 = u35 at *
      generalize f 36 = u36 at *
      generalize f 37 = u37 at *
      generalize f 38 = u38 at *
      generalize f 39 = u39 at *
      generalize f 40 = u40 at *
      generalize f 41 = u41 at *
      generalize f 42 = u42 at *
      generalize f 43 = u43 at *
      generalize f 44 = u44 at *
      generalize f 45 = u45 at *
      generalize f 46 = u46 at *
      generalize f 47 = u47 at *
      generalize f 48 = u48 at *
      generalize f 49 = u49 at *
      generalize f 50 = u50 at *
      generalize f 51 = u51 at *
      generalize f 52 = u52 at *
      generalize f 53 = u53 at *
      generalize f 54 = u54 at *
      generalize f 55 = u55 at *
      generalize f 56 = u56 at *
      generalize f 57 = u57 at *
      generalize f 58 = u58 at *
      generalize f 59 = u59 at *
      generalize f 60 = u60 at *
      generalize f 61 = u61 at *
      generalize f 62 = u62 at *
      generalize f 63 = u63 at *
      generalize f 64 = u64 at *
      generalize f 65 = u65 at *
      clear h2 f
      go_wp2
      go_ret
      exact ⟨rfl, HB.out⟩
end Go.Proofs.YtfmdcnfniimkoaaGreat
/- quilllaw08.NormWords, walked. Made by wip/r8-w.py. -/
namespace Go.Proofs.YtfmdcnfniimkoaaGreat
open Go.RowKit
theorem byte_rx (c : UInt8) : byteR c = (Ex.cls (ofN [c.toNat])).rx := by
  unfold byteR
  rw [ofR_some]
  · rfl
  · intro e
    have h : (ofN [c.toNat]).has c.toNat = true := by rw [has_ofN _ (fun x hx => by simp at hx; subst hx; exact c.toNat_lt) _ c.toNat_lt]; simp
    rw [show natsOf [c] = [c.toNat] from rfl] at e
    rw [e, Ws.has_nil] at h
    cases h
theorem word_rx : ∀ l : List UInt8, foldR 4 2 (l.map byteR) = (wordA l).rx
  | [] => rfl
  | [c] => byte_rx c
  | c :: d :: l => by
    have ih := word_rx (d :: l)
    simp only [List.map_cons, foldR, wordA, Ex.rx] at ih ⊢
    rw [ih, byte_rx]
    rfl
theorem wordA_wf : ∀ l : List UInt8, (wordA l).Wf
  | [] => trivial
  | [c] => ⟨ofN_ok _, fun e => by
    have h := byte_rx c
    rw [byteR, ofR, if_pos (by rw [show natsOf [c] = [c.toNat] from rfl, e]; exact sameW_iff.2 rfl)] at h
    simp [Ex.rx] at h⟩
  | c :: d :: l => ⟨⟨ofN_ok _, fun e => by
    have h := byte_rx c
    rw [byteR, ofR, if_pos (by rw [show natsOf [c] = [c.toNat] from rfl, e]; exact sameW_iff.2 rfl)] at h
    simp [Ex.rx] at h⟩, wordA_wf (d :: l)⟩
theorem wordA_size : ∀ l : List UInt8, (wordA l).size ≤ 2 * l.length + 1
  | [] => by simp [wordA, Ex.size]
  | [c] => by simp [wordA, Ex.size]
  | c :: d :: l => by
    have ih := wordA_size (d :: l)
    simp only [wordA, Ex.size, List.length_cons] at ih ⊢
    omega
theorem word_nfe (l : List UInt8) : nfE (wordA l) = wordA l := nf_fix (word_nf l) (wordA_wf l)
theorem two_new {w : World} {ok ok' : Nat → Prop} {x0 x1 x2 x3 x4 x5 y0 y1 y2 y3 y4 y5 : Value} {r t : Rx} (h : ReAt ok w (.agg #[x0, x1, x2, x3, x4, x5]) r) (h' : ReAt ok' w (.agg #[y0, y1, y2, y3, y4, y5]) t) : RowAt (fun _ => True) (w.alloc (.cells #[x0, x1, x2, x3, x4, x5, y0, y1, y2, y3, y4, y5] 27)) (some ⟨w.heap.size, 0, none⟩) [r, t] :=
  row_two (blk_new w _) trivial ((h.below ((Below.refl _ w).alloc (Nat.le_refl _) _)).imp fun _ _ _ => trivial) ((h'.below ((Below.refl _ w).alloc (Nat.le_refl _) _)).imp fun _ _ _ => trivial)
set_option maxHeartbeats 8000000 in
set_option maxRecDepth 100000 in
theorem normWords_walk (hRead : ReadC) (s : ByteArray) (m : Nat) (w : World) (hm : m < 256) (hs : s.size ≤ maxLen) :
    Calls Tryz.prog 6 #[.string s, .int .u8 m] w fun e w' => e = .returned (.bool true) ∧ Below w.heap.size w w' := by
  have KA := Lib.hid (awake8_any hRead)
  have hs2 : s.size ≤ 9223372036854775807 := hs
  clear hRead
  by_cases hlen : 100 < s.size
  · have q1 : (100 : Int) < (s.size : Int) := by omega
    go_enter Tryz.func6, Tryz.ntmps6
    go_wp2_with fail
    refine (KA.out _).mono ?_
    rintro e w2 ⟨rfl, hb⟩
    go_wp2
    go_ret
    exact ⟨rfl, hb⟩
  · have q1 : ¬ (100 : Int) < (s.size : Int) := by omega
    obtain ⟨n, hn⟩ : ∃ n, n = m % (s.size + 1) := ⟨_, rfl⟩
    have hn1 : n ≤ s.size := by rw [hn]; exact Nat.le_of_lt_succ (Nat.mod_lt _ (by omega))
    have r2 : (m : Int) % ((s.size : Int) + 1) = (n : Int) := by rw [hn]; rfl
    clear hn
    have KW := Lib.hid fun W => word_any s W (by omega)
    go_enter Tryz.func6, Tryz.ntmps6
    go_wp2_with fail
    refine (KW.out _).mono ?_
    rintro e w1 ⟨v1, rfl, hv1, hb1⟩
    obtain ⟨y0, y1, y2, y3, y4, yl, yn, yc, rfl⟩ := cells_re hv1
    have hal := (Below.refl _ w1).alloc (Nat.le_refl _) (.cells #[.int .u8 y0, .int .u64 y1, .int .u64 y2, .int .u64 y3, .int .u64 y4, .slice yl yn yc] 27)
    have HY := Lib.hid (blk_new w1 (.cells #[.int .u8 y0, .int .u64 y1, .int .u64 y2, .int .u64 y3, .int .u64 y4, .slice yl yn yc] 27))
    have HVY := Lib.hid (hv1.below hal)
    have HB0 := Lib.hid (hb1.trans (hal.mono hb1.size))
    clear hb1 hv1 hal r2
    go_wp2_with fail
    obtain ⟨W3, hW3⟩ : ∃ x, x = w1.alloc (.cells #[.int .u8 y0, .int .u64 y1, .int .u64 y2, .int .u64 y3, .int .u64 y4, .slice yl yn yc] 27) := ⟨_, rfl⟩
    rw [← hW3] at HVY HB0 HY ⊢
    clear hW3
    have hl1 : (s.extract 0 n).data.toList = s.data.toList.take n := by simp
    have hl2 : (s.extract n s.size).data.toList = s.data.toList.drop n := by
      have : s.data.toList.length = s.size := by simp
      simp [List.take_of_length_le, this]
    have KWA0 := Lib.hid fun W => word_any (s.extract 0 n) W (by simp; omega)
    have KWB0 := Lib.hid fun W => word_any (s.extract n s.size) W (by simp; omega)
    have e1 : foldR 4 2 (wordL s) = (wordA s.data.toList).rx := word_rx _
    have e2 : foldR 4 2 (wordL (s.extract 0 n)) = (wordA (s.data.toList.take n)).rx := by unfold wordL; rw [hl1]; exact word_rx _
    have e3 : foldR 4 2 (wordL (s.extract n s.size)) = (wordA (s.data.toList.drop n)).rx := by unfold wordL; rw [hl2]; exact word_rx _
    have hL : s.data.toList.length ≤ 100 := by have : s.data.toList.length = s.size := by simp
                                               omega
    generalize s.data.toList = l at *
    have z0 := wordA_size l
    have z1 := wordA_size (l.take n)
    have z2 := wordA_size (l.drop n)
    have l1 : (l.take n).length ≤ l.length := by simp; omega
    have l2 : (l.drop n).length ≤ l.length := by simp
    have en : normX (wordA l).rx = (wordA l).rx := by rw [normX_of (wordA_wf l) (by omega), word_nfe]
    have ei : isX (wordA l).rx = true := by unfold isX; rw [en, may_wf (wordA_wf l) (by omega), (sameR_iff _ _).2 rfl]; rfl
    have es : normX (Ex.seq (wordA (l.take n)) (wordA (l.drop n))).rx = (wordA l).rx := by
      rw [normX_of (e := .seq _ _) ⟨wordA_wf _, wordA_wf _⟩ (by simp only [Ex.size]; omega)]
      show (seqE (nfE _) (nfE _)).rx = _
      rw [word_nfe, word_nfe, word_seq, List.take_append_drop]
    rw [e2] at KWA0
    rw [e3] at KWB0
    rw [e1] at HVY
    clear e1 e2 e3 hl1 hl2 z0 z1 z2 l1 l2 hL KW
    generalize wordA (l.take n) = ea at *
    generalize wordA (l.drop n) = eb at *
    generalize (wordA l).rx = nx at *
    have KI := Lib.hid fun g W (h : RowAt (fun _ => True) W (some ⟨g, 0, none⟩) [nx]) => isL_any [nx] (some ⟨g, 0, none⟩) 1 W (by simp) h
    rw [show [nx].all isX = true from by simp [ei], show [nx].length = 1 from rfl] at KI
    have KT := Lib.hid fun g W (h : RowAt (fun _ => True) W (some ⟨g, 0, none⟩) [ea.rx, eb.rx]) => then_any [ea.rx, eb.rx] (some ⟨g, 0, none⟩) 2 W (by simp) h
    rw [show foldR 4 2 [ea.rx, eb.rx] = (Ex.seq ea eb).rx from rfl, show [ea.rx, eb.rx].length = 2 from rfl] at KT
    have KN := Lib.hid fun (ok : Nat → Prop) v W (h : ReAt ok W v (Ex.seq ea eb).rx) => normL_any (Ex.seq ea eb).rx v W h
    rw [es] at KN
    have KS1 := Lib.hid fun (ok1 ok2 : Nat → Prop) v u W (h : ReAt ok1 W v nx) (h' : ReAt ok2 W u nx) => refSame nx nx v u W h h'
    rw [(sameR_iff nx nx).2 rfl] at KS1
    clear en ei es
    have WB := Lib.hid fun x (hx : Below W3.heap.size W3 x) => HB0.out.trans (hx.mono HB0.out.size)
    have CY := Lib.hid fun x (hx : Below W3.heap.size W3 x) => cellsR ((hx.block _ (Array.getElem?_eq_some_iff.1 HY.out).1).trans HY.out)
    have HRY := Lib.hid fun x (hx : Below W3.heap.size W3 x) => HVY.out.below hx
    have KS := Lib.hid fun x (hx : Below W3.heap.size W3 x) v (hv : ReAt (fun _ => True) x v nx) => KS1.out _ _ v _ x hv (HRY.out x hx)
    have KWA := KWA0
    have KWB := KWB0
    have u1 : (0 : Int) ≤ (n : Int) := by omega
    have u2 : (n : Int) ≤ (s.size : Int) := by omega
    refine wp_region_order (fun i => ([SP.eq (.agg #[.int .u8 y0, .int .u64 y1, .int .u64 y2, .int .u64 y3, .int .u64 y4, .slice yl yn yc]), SP.row nx, SP.eq (.bool (true)), SP.eq (.bool (true)), SP.eq (.string s), SP.eq (.int .i64 (n : Int)), SP.eq (.string (s.extract 0 n)), SP.ex (fun _ => True) ea, SP.eq (.string s), SP.eq (.int .i64 (n : Int)), SP.eq (.string (s.extract n s.size)), SP.ex (fun _ => True) eb, SP.two ea eb, SP.ex (fun _ => True) (.seq ea eb), SP.rx nx, SP.eq (.agg #[.int .u8 y0, .int .u64 y1, .int .u64 y2, .int .u64 y3, .int .u64 y4, .slice yl yn yc]), SP.eq (.bool (true)), SP.eq (.bool (true)), SP.eq (.bool (true)), SP.eq (.bool (true)), SP.eq (.bool (true)), SP.eq (.bool (true))] : List SP).getD i SP.free) (by kernel_rfl) (by kernel_rfl) ⟨?_, ?_, ?_, ?_, ?_, ?_, ?_, ?_, ?_, ?_, ?_, ?_, ?_, ?_, ?_, ?_, ?_, ?_, ?_, ?_, ?_, ?_, trivial⟩ ?_
    · intro a x K out get hb hK
      rw [if_pos (wanted_none rfl)]
      have o6 : a.tmps[6]? = some (.pointer (some ⟨w1.heap.size, 0, none⟩)) := out 6 (by kernel_rfl)
      obtain ⟨c0, c1, c2, c3, c4, c5, -⟩ := CY.out x hb
      clear out get
      go_simp
      exact hK _ _ rfl (Below.refl _ _)
    · intro a x K out get hb hK
      rw [if_pos (wanted_none rfl)]
      obtain ⟨y19, hy19, rfl⟩ := get 0 _ _ rfl rfl (by kernel_rfl)
      clear out get
      go_simp
      exact hK _ _ ⟨_, rfl, row_new (HRY.out x hb)⟩ (bel_al _ _)
    · intro a x K out get hb hK
      rw [if_pos (wanted_none rfl)]
      obtain ⟨y20, hy20, ⟨g20, rfl, hrow20⟩⟩ := get 1 _ _ rfl rfl (by kernel_rfl)
      clear out get
      go_simp
      refine (KI.out _ _ hrow20).mono ?_
      rintro e w2 ⟨rfl, hb2⟩
      exact hK _ _ rfl hb2
    · intro a x K out get hb hK
      rw [if_pos (wanted_none rfl)]
      obtain ⟨y21, hy21, rfl⟩ := get 2 _ _ rfl rfl (by kernel_rfl)
      clear out get
      go_simp
      exact hK _ _ rfl (Below.refl _ _)
    · intro a x K out get hb hK
      obtain ⟨yg, hyg, rfl⟩ := get 3 _ _ rfl rfl (by kernel_rfl)
      rw [if_pos (by rw [wanted_bool rfl rfl rfl hyg]; rfl)]
      clear hyg
      have o0 : a.tmps[0]? = some (.string s) := out 0 (by kernel_rfl)
      clear out get
      go_simp
      exact hK _ _ rfl (Below.refl _ _)
    · intro a x K out get hb hK
      obtain ⟨yg, hyg, rfl⟩ := get 3 _ _ rfl rfl (by kernel_rfl)
      rw [if_pos (by rw [wanted_bool rfl rfl rfl hyg]; rfl)]
      clear hyg
      have o5 : a.tmps[5]? = some (.int .i64 (n : Int)) := out 5 (by kernel_rfl)
      clear out get
      go_simp
      exact hK _ _ rfl (Below.refl _ _)
    · intro a x K out get hb hK
      obtain ⟨yg, hyg, rfl⟩ := get 3 _ _ rfl rfl (by kernel_rfl)
      rw [if_pos (by rw [wanted_bool rfl rfl rfl hyg]; rfl)]
      clear hyg
      obtain ⟨y23, hy23, rfl⟩ := get 4 _ _ rfl rfl (by kernel_rfl)
      obtain ⟨y24, hy24, rfl⟩ := get 5 _ _ rfl rfl (by kernel_rfl)
      clear out get
      go_simp
      exact hK _ _ rfl (Below.refl _ _)
    · intro a x K out get hb hK
      obtain ⟨yg, hyg, rfl⟩ := get 3 _ _ rfl rfl (by kernel_rfl)
      rw [if_pos (by rw [wanted_bool rfl rfl rfl hyg]; rfl)]
      clear hyg
      obtain ⟨y25, hy25, rfl⟩ := get 6 _ _ rfl rfl (by kernel_rfl)
      clear out get
      go_simp
      refine (KWA.out x).mono ?_
      rintro e w2 ⟨v2, rfl, hv2, hb2⟩
      exact hK _ _ (ExV.of hv2 fun _ _ _ => trivial) hb2
    · intro a x K out get hb hK
      obtain ⟨yg, hyg, rfl⟩ := get 3 _ _ rfl rfl (by kernel_rfl)
      rw [if_pos (by rw [wanted_bool rfl rfl rfl hyg]; rfl)]
      clear hyg
      have o0 : a.tmps[0]? = some (.string s) := out 0 (by kernel_rfl)
      clear out get
      go_simp
      exact hK _ _ rfl (Below.refl _ _)
    · intro a x K out get hb hK
      obtain ⟨yg, hyg, rfl⟩ := get 3 _ _ rfl rfl (by kernel_rfl)
      rw [if_pos (by rw [wanted_bool rfl rfl rfl hyg]; rfl)]
      clear hyg
      have o5 : a.tmps[5]? = some (.int .i64 (n : Int)) := out 5 (by kernel_rfl)
      clear out get
      go_simp
      exact hK _ _ rfl (Below.refl _ _)
    · intro a x K out get hb hK
      obtain ⟨yg, hyg, rfl⟩ := get 3 _ _ rfl rfl (by kernel_rfl)
      rw [if_pos (by rw [wanted_bool rfl rfl rfl hyg]; rfl)]
      clear hyg
      obtain ⟨y27, hy27, rfl⟩ := get 8 _ _ rfl rfl (by kernel_rfl)
      obtain ⟨y28, hy28, rfl⟩ := get 9 _ _ rfl rfl (by kernel_rfl)
      clear out get
      go_simp
      exact hK _ _ rfl (Below.refl _ _)
    · intro a x K out get hb hK
      obtain ⟨yg, hyg, rfl⟩ := get 3 _ _ rfl rfl (by kernel_rfl)
      rw [if_pos (by rw [wanted_bool rfl rfl rfl hyg]; rfl)]
      clear hyg
      obtain ⟨y29, hy29, rfl⟩ := get 10 _ _ rfl rfl (by kernel_rfl)
      clear out get
      go_simp
      refine (KWB.out x).mono ?_
      rintro e w2 ⟨v2, rfl, hv2, hb2⟩
      exact hK _ _ (ExV.of hv2 fun _ _ _ => trivial) hb2
    · intro a x K out get hb hK
      obtain ⟨yg, hyg, rfl⟩ := get 3 _ _ rfl rfl (by kernel_rfl)
      rw [if_pos (by rw [wanted_bool rfl rfl rfl hyg]; rfl)]
      clear hyg
      obtain ⟨y26, hy26, ⟨p0, p1, p2, p3, p4, pl, pn, pc, rfl, hr26⟩⟩ := get 7 _ _ rfl rfl (by kernel_rfl)
      obtain ⟨y30, hy30, ⟨o0, o1, o2, o3, o4, ol, on, oc, rfl, hr30⟩⟩ := get 11 _ _ rfl rfl (by kernel_rfl)
      clear out get
      go_simp
      exact hK _ _ ⟨_, rfl, two_new hr26 hr30⟩ (bel_al _ _)
    · intro a x K out get hb hK
      obtain ⟨yg, hyg, rfl⟩ := get 3 _ _ rfl rfl (by kernel_rfl)
      rw [if_pos (by rw [wanted_bool rfl rfl rfl hyg]; rfl)]
      clear hyg
      obtain ⟨y31, hy31, ⟨g31, rfl, hrow31⟩⟩ := get 12 _ _ rfl rfl (by kernel_rfl)
      clear out get
      go_simp
      refine (KT.out _ _ hrow31).mono ?_
      rintro e w2 ⟨v2, rfl, hv2, hb2⟩
      exact hK _ _ (ExV.of hv2 fun _ _ _ => trivial) hb2
    · intro a x K out get hb hK
      obtain ⟨yg, hyg, rfl⟩ := get 3 _ _ rfl rfl (by kernel_rfl)
      rw [if_pos (by rw [wanted_bool rfl rfl rfl hyg]; rfl)]
      clear hyg
      obtain ⟨y32, hy32, ⟨u0, u1, u2, u3, u4, ul, un, uc, rfl, hr32⟩⟩ := get 13 _ _ rfl rfl (by kernel_rfl)
      clear out get
      go_simp
      refine (KN.out _ _ x hr32).mono ?_
      rintro e w2 ⟨v2, rfl, hv2, hb2⟩
      exact hK _ _ (RxV.of hv2) hb2
    · intro a x K out get hb hK
      obtain ⟨yg, hyg, rfl⟩ := get 3 _ _ rfl rfl (by kernel_rfl)
      rw [if_pos (by rw [wanted_bool rfl rfl rfl hyg]; rfl)]
      clear hyg
      have o6 : a.tmps[6]? = some (.pointer (some ⟨w1.heap.size, 0, none⟩)) := out 6 (by kernel_rfl)
      obtain ⟨c0, c1, c2, c3, c4, c5, -⟩ := CY.out x hb
      clear out get
      go_simp
      exact hK _ _ rfl (Below.refl _ _)
    · intro a x K out get hb hK
      obtain ⟨yg, hyg, rfl⟩ := get 3 _ _ rfl rfl (by kernel_rfl)
      rw [if_pos (by rw [wanted_bool rfl rfl rfl hyg]; rfl)]
      clear hyg
      obtain ⟨y33, hy33, ⟨q0, q1, q2, q3, q4, ql, qn, qc, rfl, hr33⟩⟩ := get 14 _ _ rfl rfl (by kernel_rfl)
      obtain ⟨y34, hy34, rfl⟩ := get 15 _ _ rfl rfl (by kernel_rfl)
      clear out get
      go_simp
      refine (KS.out x hb _ hr33).mono ?_
      rintro e w2 ⟨rfl, hb2⟩
      exact hK _ _ rfl hb2
    · intro a x K out get hb hK
      rw [if_pos (wanted_none rfl)]
      obtain ⟨y22, hy22, rfl⟩ := get 3 _ _ rfl rfl (by kernel_rfl)
      obtain ⟨y35, hy35, rfl⟩ := get 16 _ _ rfl rfl (by kernel_rfl)
      clear out get
      go_simp
      exact hK _ _ rfl (Below.refl _ _)
    · intro a x K out get hb hK
      rw [if_pos (wanted_none rfl)]
      obtain ⟨y36, hy36, rfl⟩ := get 17 _ _ rfl rfl (by kernel_rfl)
      clear out get
      go_simp
      exact hK _ _ rfl (Below.refl _ _)
    · intro a x K out get hb hK
      obtain ⟨yg, hyg, rfl⟩ := get 18 _ _ rfl rfl (by kernel_rfl)
      rw [if_pos (by rw [wanted_bool rfl rfl rfl hyg]; rfl)]
      clear hyg
      clear out get
      go_simp
      refine (KA.out x).mono ?_
      rintro e w2 ⟨rfl, hb2⟩
      exact hK _ _ rfl hb2
    · intro a x K out get hb hK
      rw [if_pos (wanted_none rfl)]
      obtain ⟨y37, hy37, rfl⟩ := get 18 _ _ rfl rfl (by kernel_rfl)
      obtain ⟨y38, hy38, rfl⟩ := get 19 _ _ rfl rfl (by kernel_rfl)
      clear out get
      go_simp
      exact hK _ _ rfl (Below.refl _ _)
    · intro a x K out get hb hK
      rw [if_pos (wanted_none rfl)]
      obtain ⟨y39, hy39, rfl⟩ := get 20 _ _ rfl rfl (by kernel_rfl)
      clear out get
      go_simp
      exact hK _ _ rfl (Below.refl _ _)
    refine ao_fin (isD := fun s => (decide (19 ≤ s) && decide (s ≤ 39)) || decide (s = 4)) (by kernel_rfl) ?_
    intro f x hv hb
    have h4 : f 4 = _ := hv 21 _ _ rfl rfl
    have HB := Lib.hid (WB.out x hb)
    clear hv hb
    simp only [frm]
    simp
    rw [h4]
    generalize f 19 = u19 at *
    generalize f 20 = u20 at *
    generalize f 21 = u21 at *
    generalize f 22 = u22 at *
    generalize f 23 = u23 at *
    generalize f 24 = u24 at *
    generalize f 25 = u25 at *
    generalize f 26 = u26 at *
    generalize f 27 = u27 at *
    generalize f 28 = u28 at *
    generalize f 29 = u29 at *
    generalize f 30 = u30 at *
    generalize f 31 = u31 at *
    generalize f 32 = u32 at *
    generalize f 33 = u33 at *
    generalize f 34 = u34 at *
    generalize f 35 = u35 at *
    generalize f 36 = u36 at *
    generalize f 37 = u37 at *
    generalize f 38 = u38 at *
    generalize f 39 = u39 at *
    clear h4 f
    go_wp2
    go_ret
    exact ⟨rfl, HB.out⟩
end Go.Proofs.YtfmdcnfniimkoaaGreat
