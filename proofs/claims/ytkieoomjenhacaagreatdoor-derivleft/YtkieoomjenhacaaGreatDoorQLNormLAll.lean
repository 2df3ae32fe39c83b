/- Lemmas of mine, merged: QLNormL, QLNormQ, QLNormR, QLDerJ, QLDerL, QLDerW, QLDerZ, QLDerAw, QLDerBs, QLDerivWalksW, QLDerivLeftW. -/
import Derived.Deep.CutRange
import Derived.Test.YtkieoomjenhacaaGreatDoorQLRdrDAll
import Derived.Test.YtkieoomjenhacaaGreatDoorQLOrdOAll
import Derived.Test.YtkieoomjenhacaaGreatDoorQLRexEAll
import Derived.Test.YtkieoomjenhacaaGreatDoorQLRexKAll
import Derived.Test.YtkieoomjenhacaaGreatDoorQLSetCAll
import Derived.Test.YtkieoomjenhacaaGreatDoorQLNullHAll
import Derived.Test.YtkieoomjenhacaaGreatDoorQLAnyOrdAll
import Derived.Laws.OwnMore
import Derived.Deep.RegionHeld3
import Derived.Deep.QuietTactic
import Derived.BigQuiet
import Derived.Deep.AppendLies
import Derived.Test.YtkieoomjenhacaaGreatDoorQLRexBAll
import Derived.Test.YtkieoomjenhacaaGreatDoorQLSetEAll
import Derived.Test.YtkieoomjenhacaaGreatDoorQLSetAAll
import Derived.Test.YtkieoomjenhacaaGreatDoorQLReadJAll
import Derived.Laws.DeepStrings4
/- Lemmas of mine. -/
namespace Go.Proofs.YtkieoomjenhacaaGreatDoor
open Go.RowKit
theorem onceR_len (l : List Rx) : (onceR l).length ≤ l.length := by
  have := onceFrom_length l []
  simpa [onceR] using this
theorem gathP_len (p : List Ex) : (gathP p).length ≤ p.length + 1 := by
  have h : (bareL p).length ≤ p.length := List.length_filter_le _ _
  unfold gathP
  split
  · omega
  · simp only [List.length_append, List.length_singleton]; omega
theorem ofR_some {s : Ws} (h : s ≠ Ws.nil) : ofR s = (Ex.cls s).rx := by
  unfold ofR
  rw [if_neg (fun e => h (sameW_iff.1 e))]
  rfl
def CutP (B : Nat) (X : Nat → Prop) (o : Nat) (ps : List Ex) (W1 w : World) : Prop := PV B X (Lo B) o ps w ∧ Below B W1 w
theorem last_any {ok : Nat → Prop} (ps : List Ex) (al : Option Addr) (cap : Nat) (w : World) (hl : ps.length ≤ 1000000) (h : RowAt ok w al (ps.map Ex.rx)) :
    Calls Tryz.prog 121 #[.slice al ps.length cap] w fun x w3 => ∃ (n3 : Nat) (al3 : Option Addr), x = .returned (.slice al3 n3 n3) ∧ Below w.heap.size w w3 ∧
      Calls Tryz.prog 120 #[.slice al3 n3 n3] w3 fun x w4 => ∃ (n4 : Nat) (al4 : Option Addr), x = .returned (.slice al4 n4 n4) ∧ Below w3.heap.size w3 w4 ∧
        Calls Tryz.prog 69 #[.slice al4 n4 n4] w4 (NewPost (foldA (canE ps)).rx w4) := by
  have K := sort_any (ps.map Ex.rx) al cap w (by rw [List.length_map]; exact hl) h
  rw [List.length_map] at K
  refine K.mono ?_
  rintro x w3 ⟨al3, rfl, hr3, hb3⟩
  refine ⟨_, al3, rfl, hb3, ?_⟩
  have hS : (sortR (ps.map Ex.rx)).length ≤ 1000000 := by rw [sortR_length, List.length_map]; exact hl
  refine (once_any (sortR (ps.map Ex.rx)) al3 _ w3 hS hr3).mono ?_
  rintro x w4 ⟨al4, rfl, hr4, hb4⟩
  refine ⟨_, al4, rfl, hb4, ?_⟩
  rw [foldA_rx, canE_map]
  exact or_any _ al4 _ w4 (Nat.lt_of_le_of_lt (onceR_len _) (by omega)) hr4
set_option maxRecDepth 100000 in
set_option maxHeartbeats 8000000 in
theorem nmAlt_any (ok : Nat → Prop) (l : List Ex) (al0 : Option Addr) (cap : Nat) (w : World) (hlen : l.length < 2199023255552) (hM : (partL 5 l).length ≤ 900000) (hR : RowAt ok w al0 (l.map Ex.rx)) :
    Calls Tryz.prog 102 #[.slice al0 l.length cap] w (NewPost (altE l).rx w) := by
  obtain ⟨W1, hW1⟩ : ∃ x, x = ((w.alloc zR).alloc (.cells #[.slice none 0 0] 25)).alloc (.cells #[.int .u64 0, .int .u64 0, .int .u64 0, .int .u64 0] 24) := ⟨_, rfl⟩
  have hb1 : Below w.heap.size w W1 := by rw [hW1]; exact al3 w _ _ _
  obtain ⟨hz, ho, hc, hsz⟩ := three_new w zR (.cells #[.slice none 0 0] 25) (.cells #[.int .u64 0, .int .u64 0, .int .u64 0, .int .u64 0] 24)
  rw [← hW1] at hz ho hc hsz
  have hB : w.heap.size + 1 ≤ W1.heap.size := by omega
  have hR1 : RowAt (Lo (w.heap.size + 1)) W1 al0 (l.map Ex.rx) := (hR.imp (ok' := Lo (w.heap.size + 1)) fun b hb _ => Nat.lt_succ_of_lt hb).below hb1
  obtain ⟨X, hX⟩ : ∃ X : Nat → Prop, X = fun b => b = w.heap.size + 1 ∨ b = w.heap.size + 2 := ⟨_, rfl⟩
  have hXB : ∀ x, X x → w.heap.size + 1 ≤ x := fun x h => by rw [hX] at h; rcases h with rfl | rfl <;> omega
  have hXo : X (w.heap.size + 1) := by rw [hX]; exact .inl rfl
  have hXc : X (w.heap.size + 2) := by rw [hX]; exact .inr rfl
  have hXl : ∀ x, X x → x < W1.heap.size := fun x h => by rw [hX] at h; rcases h with rfl | rfl <;> omega
  have hT : Tell 1000000 (w.heap.size + 1) W1 119 #[.pointer (some ⟨w.heap.size + 2, 0, none⟩), .pointer (some ⟨w.heap.size + 1, 0, none⟩)] (AltI (w.heap.size + 1) X (w.heap.size + 1) (w.heap.size + 2)) (fun _ => True) := by
    refine ⟨fun v W => rfl, fun done W W' h hb => ⟨h.1.below hb, h.2.1.below hb h.2.1.lt, h.2.2⟩, fun done e v W hd hI hB' _ hre => ?_⟩
    exact alt1_any hXo hXc (by omega) hXB (Nat.le_trans hB hB'.size) hd hI hre
  have K0 := each_any (k := 5) (.inr rfl) hB hT (Ex.sum l) l al0 cap [] W1 (Nat.le_refl _) hlen hR1 (fun _ _ => trivial) (by simp only [List.nil_append]; omega) ⟨PV.start ho hXl, hc, Ws.nil_ok⟩ (Below.refl _ _)
  simp only [List.nil_append] at K0
  rw [altE_part]
  generalize partL 5 l = p at *
  have KF := Lib.hid fun al cap W (h : RowAt (fun b => Lo (w.heap.size + 1) b ∨ w.heap.size + 1 ≤ b) W al ((gathP p).map Ex.rx)) => last_any (gathP p) al cap W (Nat.le_trans (gathP_len p) (by omega)) h
  generalize foldA (canE (gathP p)) = res at *
  have HG := Lib.hid (show gathP p = if setE p = Ws.nil then bareL p else bareL p ++ [.cls (setE p)] from rfl)
  have hbl : (bareL p).length ≤ 900000 := Nat.le_trans (List.length_filter_le _ _) hM
  have K := Lib.hid K0
  rw [show (((5 : Nat) : Int)) = 5 from rfl] at K
  have HB1 := Lib.hid hb1
  have HW1 := Lib.hid hW1
  have HZ := Lib.hid fun w2 (h : Below (w.heap.size + 1) W1 w2) => (h.block _ (Nat.lt_succ_self _)).trans hz
  have hsz2 : w.heap.size < W1.heap.size := by omega
  have HOK := Lib.hid (show ∀ b, Lo (w.heap.size + 1) b → ¬ X b from fun b h hb => by have := hXB b hb; have : b < w.heap.size + 1 := h; omega)
  have hBo : w.heap.size + 1 ≤ w.heap.size + 1 := Nat.le_refl _
  clear hR hR1 hT hb1 ho hc hz hX hXB hXl K0
  go_enter Tryz.func102, Tryz.ntmps102
  go_wp2_with fail
  rw [← HW1.out]
  refine K.out.mono ?_
  rintro x w2 ⟨rfl, hI, hb2⟩
  obtain ⟨hP, hV, hsok⟩ := hI
  obtain ⟨⟨ta, tb, tc, td⟩, ht⟩ : ∃ t, t = setE p := ⟨_, rfl⟩
  rw [← ht] at hV hsok HG
  obtain ⟨⟨t0, t1, t2, t3⟩, -⟩ := hV.all
  have HBC := Lib.hid hb2
  have HP := Lib.hid hP
  have HVB := Lib.hid hV
  have HSK := Lib.hid hsok
  clear hP hV hsok hb2 K HW1 ht
  by_cases hn : (⟨ta, tb, tc, td⟩ : Ws) = Ws.nil
  · rw [hn, if_pos rfl] at HG
    injection hn with n0 n1 n2 n3
    subst n0 n1 n2 n3
    have HPV : Hid (PV (w.heap.size + 1) X (Lo (w.heap.size + 1)) (w.heap.size + 1) (gathP p) w2) := Lib.hid (by rw [HG.out]; exact HP.out)
    have EQ := eqW_yes Ws.nil
    rw [nil_v] at EQ
    clear HG HP
    generalize gathP p = ps at *
    obtain ⟨al2, cap2, hv, hcp, hr⟩ := HPV.out.out
    obtain ⟨c0, -⟩ := var_cell hv
    have HZ2 := Lib.hid (HZ.out w2 HBC.out)
    have HB2 := Lib.hid (HB1.out.trans (HBC.out.mono (Nat.le_succ _)))
    have hs2 : w.heap.size < w2.heap.size := Nat.lt_of_lt_of_le hsz2 HBC.out.size
    have KS := Lib.hid (KF.out al2 cap2 w2 hr)
    clear hv hcp hr
    go_wp2_with fail
    refine KS.out.mono ?_
    rintro x w3 ⟨n3, al3, rfl, hb3, K3⟩
    have K3 := Lib.hid K3
    have hz3 := (hb3.block _ hs2).trans HZ2.out
    have HZ3 := Lib.hid hz3
    have HB3 := Lib.hid (HB2.out.trans (hb3.mono HB2.out.size))
    have hs3 : w.heap.size < w3.heap.size := Nat.lt_of_lt_of_le hs2 hb3.size
    clear hb3 hz3 c0 KS
    go_wp2_with fail
    refine K3.out.mono ?_
    rintro x w4 ⟨n4, al4, rfl, hb4, K4⟩
    have K4 := Lib.hid K4
    have hz4 := (hb4.block _ hs3).trans HZ3.out
    have HZ4 := Lib.hid hz4
    have HB4 := Lib.hid (HB3.out.trans (hb4.mono HB3.out.size))
    have hs4 : w.heap.size < w4.heap.size := Nat.lt_of_lt_of_le hs3 hb4.size
    clear hb4 hz4 K3
    go_wp2_with fail
    refine K4.out.mono ?_
    rintro x w5 ⟨v1, rfl, hv1, hb5⟩
    obtain ⟨p0, p1, p2, p3, p4, pl, pn, pc, rfl⟩ := cells_re hv1
    have hz5 := (hb5.block _ hs4).trans HZ4.out
    have HV := Lib.hid hv1
    have HZ5 := Lib.hid hz5
    have HB5 := Lib.hid (HB4.out.trans (hb5.mono HB4.out.size))
    obtain ⟨d0, d1, d2, d3, d4, d5, f0, f1, f2, f3, f4, f5⟩ := cellsR hz5
    clear hv1 hb5 hz5 K4
    go_wp2
    exact ret_new HZ5.out HV.out hs4 HB5.out (Nat.le_refl _) Tryz.results102 rfl rfl
  · rw [if_neg hn] at HG
    have EQ := eqW_no hn
    rw [nil_v] at EQ
    simp only [Ws.v] at EQ
    have CE := Lib.hid (show ∀ x w3, PushPost (w.heap.size + 1) X (Lo (w.heap.size + 1)) (w.heap.size + 1) (bareL p ++ [.cls ⟨ta, tb, tc, td⟩]) w2 x w3 → CutP (w.heap.size + 1) X (w.heap.size + 1) (gathP p) W1 w3 from fun x w3 h => ⟨by rw [HG.out]; exact h.2.1, HBC.out.trans h.2.2.1⟩)
    have KOF := Lib.hid fun W => ofX_any ⟨ta, tb, tc, td⟩ W HSK.out
    rw [ofR_some hn] at KOF
    simp only [Ws.v] at KOF
    clear HG
    generalize gathP p = qs at *
    generalize bareL p = ps at *
    obtain ⟨v, xs, h1, hown, h3, h4⟩ := HP.out
    obtain ⟨al, vc, rfl⟩ : ∃ al c, v = .slice al ps.length c := own_form hown
    obtain ⟨i0, z0, hi0, hz0, hz1, hz2, hz3⟩ := infoR2
    have hz2' := Lib.hid hz2
    have HX : X (w.heap.size + 1) := hXo
    have HOWN := Lib.hid hown
    have H3 := Lib.hid h3
    have H4 := Lib.hid h4
    have hBw : w.heap.size + 1 ≤ w2.heap.size := Nat.le_trans hB HBC.out.size
    have V0 := Lib.hid h1
    clear hz2 hown h3 h4 h1 HP
    go_upto_region 5 with fail
    clear EQ t0 t1 t2 t3
    go_cut [2] from 11 to 17 (fun v wx => v = .pointer (some ⟨w.heap.size, 0, none⟩) ∧ CutP (w.heap.size + 1) X (w.heap.size + 1) qs W1 wx)
    case first =>
      have WB := Lib.hid fun x (hx : Below w2.heap.size w2 x) => hx
      have VO := Lib.hid fun x (hx : Below w2.heap.size w2 x) => (hx.block _ (H4.out _ HX).1).trans V0.out
      have CB := Lib.hid fun x (hx : Below w2.heap.size w2 x) => (HVB.out.below hx HVB.out.lt).all
      refine wp_region_orderA 5 (fun i => ([SP.eq (.slice al ps.length vc), SP.eq (.agg #[.int .u64 ta, .int .u64 tb, .int .u64 tc, .int .u64 td]), SP.ex (fun b => Lo (w.heap.size + 1) b ∧ (Value.slice al ps.length vc).ownBlock ≠ some b) (.cls ⟨ta, tb, tc, td⟩), SP.eq (.int .i64 ps.length), SP.zero] : List SP).getD i SP.free) (fun _ => false) (fun _ _ _ h => by cases h) (by kernel_rfl) (by kernel_rfl) ⟨?_, ?_, ?_, ?_, ?_, trivial⟩ ?_
      · intro a x K out get hb hK
        rw [if_pos (wanted_none rfl)]
        have o3 : a.tmps[3]? = some (.pointer (some ⟨w.heap.size + 1, 0, none⟩)) := out 3 (by kernel_rfl)
        obtain ⟨c0, -⟩ := var_cell (VO.out x hb)
        clear out get
        go_simp
        exact hK _ _ rfl (Below.refl _ _) (fun h => by cases h)
      · intro a x K out get hb hK
        rw [if_pos (wanted_none rfl)]
        have o4 : a.tmps[4]? = some (.pointer (some ⟨w.heap.size + 1 + 1, 0, none⟩)) := out 4 (by kernel_rfl)
        obtain ⟨⟨c0, c1, c2, c3⟩, -⟩ := CB.out x hb
        clear out get
        go_simp
        exact hK _ _ rfl (Below.refl _ _) (fun h => by cases h)
      · intro a x K out get hb hK
        rw [if_pos (wanted_none rfl)]
        obtain ⟨y12, hy12, rfl⟩ := get 1 _ _ rfl rfl (by kernel_rfl)
        clear out get
        go_simp
        refine (KOF.out x).mono ?_
        rintro e w2 ⟨v2, rfl, hv2, hb2⟩
        exact hK _ _ (ExV.of (leaf_any w2 hv2) fun _ _ h => h) hb2 (fun h => by cases h)
      · intro a x K out get hb hK
        rw [if_pos (wanted_none rfl)]
        obtain ⟨y11, hy11, rfl⟩ := get 0 _ _ rfl rfl (by kernel_rfl)
        clear out get
        go_simp
        exact hK _ _ rfl (Below.refl _ _) (fun h => by cases h)
      · intro a x K out get hb hK
        rw [if_pos (wanted_none rfl)]
        clear out get
        go_simp
        exact hK _ _ ⟨_, rfl, blk_new _ _⟩ (bel_al _ _) (fun h => by cases h)
      refine ao_finA (isD := fun s => decide (11 ≤ s) && decide (s ≤ 17)) (by kernel_rfl) ?_
      intro f x hv hne hb
      clear hne
      have e11 : f 11 = _ := hv 0 _ _ (by decide) rfl rfl
      have e14 : f 14 = _ := hv 3 _ _ (by decide) rfl rfl
      obtain ⟨p0, p1, p2, p3, p4, pl, pn, pc, e13, he⟩ := hv 2 _ _ (by decide) rfl rfl
      obtain ⟨gz, e15, hz⟩ := hv 4 _ _ (by decide) rfl rfl
      have hbx := WB.out x hb
      have hox := VO.out x hb
      have HE := Lib.hid he
      have hownx := ownR_below HOWN.out hbx
      have hBx := Nat.le_trans hBw hbx.size
      clear hv he
      generalize hF : (Act.mk (List.toArray (frm f _ 0 _)) _) = fr
      simp [frm] at hF
      rw [e11, e14, e13, e15] at hF
      subst hF
      generalize f 12 = u12 at *
      generalize f 16 = u16 at *
      generalize f 17 = u17 at *
      clear e11 e14 e13 e15 f
      refine wp_end (n := 5) (by kernel_rfl) rfl rfl rfl rfl ?_
      refine step_append_lies _ rfl (.tmp 11) (.tmp 15) 25 rfl (w.heap.size + 1) 27 i0 z0 6 64 Tryz.underlying25 hi0 hz0 hz1 hz2'.out hz3 (by decide) (.slice al ps.length vc) ps.length xs rfl hownx ⟨gz, 0, none⟩ 1 1 [.int .u8 0, .int .u64 0, .int .u64 0, .int .u64 0, .int .u64 0, .slice none 0 0] rfl rfl (zero_at hz) zero6_one (by decide) (by unfold maxLen; omega) (by omega) hBx _ rfl ?_
      intro g' cap' w2 hown hgrow hat hlt
      obtain ⟨⟨n0, n1, n2, n3, n4, n5⟩, m0, m1, m2, m3, m4, m5⟩ := new6 HOWN.out.1 hown
      have hne : ¬ w.heap.size + 1 = g' := fun e => by
        rcases hat with h | h
        · exact (H4.out _ HX).2 (by rw [h, e])
        · have := (H4.out _ HX).1; have := hbx.size; omega
      have hne' : ¬ g' = w.heap.size + 1 := fun e => hne e.symm
      have hvo := (hgrow.block _ (Nat.lt_of_lt_of_le (H4.out _ HX).1 hbx.size) fun e => (H4.out _ HX).2 e.symm).trans hox
      obtain ⟨v0c, v0f⟩ := var_cell hvo
      have hidx : (ps.length : Int) < (ps.length : Int) + 1 := by omega
      have HOW := Lib.hid hown
      have HGR := Lib.hid hgrow
      have HAT := Lib.hid hat
      have HBX := Lib.hid hbx
      have HVO := Lib.hid hvo
      clear hown hgrow hat hbx hvo hox hz hownx hBx hb
      refine ⟨?_, ?_⟩
      · rw [if_pos (wanted_none rfl)]
        go_simp
        refine ⟨?_, ?_⟩
        · go_wp2_with fail
          go_meet
          exact ⟨rfl, CE.out _ _ (push_closeA HX HOK.out hBo hBw HOWN.out H3.out H4.out HBX.out HE.out HOW.out HGR.out HAT.out HVO.out hne)⟩
        · go_wp2_with fail
          go_meet
          exact ⟨rfl, CE.out _ _ (push_closeB HX HOK.out hBo hBw HOWN.out H3.out H4.out HBX.out HE.out HOW.out HGR.out HAT.out HVO.out hne)⟩
      · go_wp2_with fail
        go_meet
        exact ⟨rfl, CE.out _ _ (push_closeB HX HOK.out hBo hBw HOWN.out H3.out H4.out HBX.out HE.out HOW.out HGR.out HAT.out HVO.out hne)⟩
    case rest =>
      obtain ⟨rfl, hcp0⟩ := hcut
      have HPV := Lib.hid hcp0.1
      have HBD := Lib.hid hcp0.2
      clear hcp0 HBC HVB HOWN H3 H4 V0 CE KOF
      obtain ⟨al2, cap2, hv, hcp, hr⟩ := HPV.out.out
      obtain ⟨c0, -⟩ := var_cell hv
      have HZ2 := Lib.hid (HZ.out wc HBD.out)
      have HB2 := Lib.hid (HB1.out.trans (HBD.out.mono (Nat.le_succ _)))
      have hs2 : w.heap.size < wc.heap.size := Nat.lt_of_lt_of_le hsz2 HBD.out.size
      have KS := Lib.hid (KF.out al2 cap2 wc hr)
      clear hv hcp hr
      go_wp2_with fail
      refine KS.out.mono ?_
      rintro x w3 ⟨n3, al3, rfl, hb3, K3⟩
      have K3 := Lib.hid K3
      have hz3 := (hb3.block _ hs2).trans HZ2.out
      have HZ3 := Lib.hid hz3
      have HB3 := Lib.hid (HB2.out.trans (hb3.mono HB2.out.size))
      have hs3 : w.heap.size < w3.heap.size := Nat.lt_of_lt_of_le hs2 hb3.size
      clear hb3 hz3 c0 KS
      go_wp2_with fail
      refine K3.out.mono ?_
      rintro x w4 ⟨n4, al4, rfl, hb4, K4⟩
      have K4 := Lib.hid K4
      have hz4 := (hb4.block _ hs3).trans HZ3.out
      have HZ4 := Lib.hid hz4
      have HB4 := Lib.hid (HB3.out.trans (hb4.mono HB3.out.size))
      have hs4 : w.heap.size < w4.heap.size := Nat.lt_of_lt_of_le hs3 hb4.size
      clear hb4 hz4 K3
      go_wp2_with fail
      refine K4.out.mono ?_
      rintro x w5 ⟨v1, rfl, hv1, hb5⟩
      obtain ⟨p0, p1, p2, p3, p4, pl, pn, pc, rfl⟩ := cells_re hv1
      have hz5 := (hb5.block _ hs4).trans HZ4.out
      have HV := Lib.hid hv1
      have HZ5 := Lib.hid hz5
      have HB5 := Lib.hid (HB4.out.trans (hb5.mono HB4.out.size))
      obtain ⟨d0, d1, d2, d3, d4, d5, f0, f1, f2, f3, f4, f5⟩ := cellsR hz5
      clear hv1 hb5 hz5 K4
      go_wp2
      exact ret_new HZ5.out HV.out hs4 HB5.out (Nat.le_refl _) Tryz.results102 rfl rfl
open Go.RowKit
set_option maxHeartbeats 4000000 in
set_option maxRecDepth 100000 in
theorem nstar_any (a : Ex) (ok : Nat → Prop) (v : Value) (w : World) (h : ReAt ok w v a.rx) : Calls Tryz.prog 103 #[v] w (ExPost ok (starE a) w) := by
  obtain ⟨ka, ⟨sa, sb, sc, sd⟩, ksa, hsa⟩ := rx_form a
  have HA := Lib.hid h
  rw [hsa] at h
  obtain ⟨_, _, al, cap, rfl, hcap, _, hrow⟩ := h
  simp only at HA ⊢
  have k1a := kind_emp hsa
  have k2a := kind_eps hsa
  have k6a := kind_star hsa
  have KB := Lib.hid fun W => then_any (ok := fun _ => True) [] none 0 W (by decide) (.inl rfl)
  rw [show foldR 4 2 [] = Ex.eps.rx from rfl, show ([] : List Rx).length = 0 from rfl] at KB
  have B := Lib.hid (Bn1.new w (.cells #[.int .u8 ka, .int .u64 sa, .int .u64 sb, .int .u64 sc, .int .u64 sd, .slice al ksa.length cap] 27))
  cases q1 : a.isEmp with
  | true =>
    rw [q1] at k1a
    rw [starE_bare (.inl q1)]
    clear q1 hrow hsa k2a k6a HA
    go_enter Tryz.func103, Tryz.ntmps103
    go_wp2_with fail
    refine (KB.out _).mono ?_
    rintro e w1 ⟨v1, rfl, hv1, hb1⟩
    obtain ⟨p0, p1, p2, p3, p4, pl, pn, pc, rfl⟩ := cells_re hv1
    have B1 := Lib.hid (B.out.go hb1)
    have HV := Lib.hid (leaf_any (ok' := okN ok w.heap.size) w1 hv1)
    clear hv1 hb1 B
    obtain ⟨c0, c1, c2, c3, c4, c5, f0, f1, f2, f3, f4, f5⟩ := cellsR B1.out.2.1
    go_wp2
    exact ret_ex (e := .eps) B1.out.2.1 HV.out B1.out.2.2 (by omega) Tryz.results103 rfl rfl
  | false =>
  rw [q1] at k1a
  cases q2 : a.isEps with
  | true =>
    rw [q2] at k2a
    rw [starE_bare (.inr q2)]
    clear q1 q2 hrow hsa k6a HA
    go_enter Tryz.func103, Tryz.ntmps103
    go_wp2_with fail
    refine (KB.out _).mono ?_
    rintro e w1 ⟨v1, rfl, hv1, hb1⟩
    obtain ⟨p0, p1, p2, p3, p4, pl, pn, pc, rfl⟩ := cells_re hv1
    have B1 := Lib.hid (B.out.go hb1)
    have HV := Lib.hid (leaf_any (ok' := okN ok w.heap.size) w1 hv1)
    clear hv1 hb1 B
    obtain ⟨c0, c1, c2, c3, c4, c5, f0, f1, f2, f3, f4, f5⟩ := cellsR B1.out.2.1
    go_wp2
    exact ret_ex (e := .eps) B1.out.2.1 HV.out B1.out.2.2 (by omega) Tryz.results103 rfl rfl
  | false =>
  rw [q2] at k2a
  cases q3 : a.isStar with
  | true =>
    rw [q3] at k6a
    rw [starE_star q3]
    clear q1 q2 q3 hrow hsa KB
    go_enter Tryz.func103, Tryz.ntmps103
    go_wp2
    exact ret_re (blk_at _ _ (by simp)) Tryz.results103 rfl rfl ⟨_, rfl, (HA.out.below (al2 w _ _)).imp fun _ _ h => Or.inl h, al2 w _ _⟩
  | false =>
    rw [q3] at k6a
    rw [starE_plain q1 q2 q3]
    have KM := Lib.hid fun W (hb : Below w.heap.size w W) => manyX_any a.rx _ W (HA.out.below hb)
    clear q1 q2 q3 hrow hsa KB HA
    go_enter Tryz.func103, Tryz.ntmps103
    go_wp2_with fail
    refine (KM.out _ B.out.2.2).mono ?_
    rintro e w1 ⟨v1, rfl, hv1, hb1⟩
    obtain ⟨p0, p1, p2, p3, p4, pl, pn, pc, rfl⟩ := cells_re hv1
    have B1 := Lib.hid (B.out.go hb1)
    have HV := Lib.hid (show ReAt (okN ok w.heap.size) w1 (.agg #[.int .u8 p0, .int .u64 p1, .int .u64 p2, .int .u64 p3, .int .u64 p4, .slice pl pn pc]) (Ex.star a).rx from hv1.imp fun b _ h => .inr (Nat.le_trans B.out.2.2.size h))
    clear hv1 hb1 B
    obtain ⟨c0, c1, c2, c3, c4, c5, f0, f1, f2, f3, f4, f5⟩ := cellsR B1.out.2.1
    go_wp2
    exact ret_ex (e := .star a) B1.out.2.1 HV.out B1.out.2.2 (by omega) Tryz.results103 rfl rfl
theorem sum_part (k : Nat) : ∀ e : Ex, Ex.sum (partE k e) ≤ e.size
  | .empty => by simp [partE, Ex.sum, Ex.size]
  | .eps => by simp [partE, Ex.sum, Ex.size]
  | .cls s => by simp [partE, Ex.sum, Ex.size]
  | .star a => by simp [partE, Ex.sum]
  | .seq a b => by
    have h1 := sum_part k a
    have h2 := sum_part k b
    unfold partE
    split
    · simp only [Ex.sum, List.map_append, List.sum_append, Ex.size] at *; omega
    · simp [Ex.sum]
  | .alt a b => by
    have h1 := sum_part k a
    have h2 := sum_part k b
    unfold partE
    split
    · simp only [Ex.sum, List.map_append, List.sum_append, Ex.size] at *; omega
    · simp [Ex.sum]
theorem sum_parts (k : Nat) (l : List Ex) : Ex.sum (partL k l) ≤ Ex.sum l := by
  induction l with
  | nil => simp [partL, Ex.sum]
  | cons e l ih =>
    have h := sum_part k e
    simp only [partL, List.flatMap_cons, Ex.sum, List.map_append, List.sum_append, List.map_cons, List.sum_cons] at *
    omega
theorem sum_nf (l : List Ex) : Ex.sum (l.map nfE) ≤ Ex.sum l := by
  induction l with
  | nil => simp [Ex.sum]
  | cons e l ih =>
    have h := nf_size e
    simp only [Ex.sum, List.map_cons, List.sum_cons] at *
    omega
theorem parts_len (k : Nat) (l : List Ex) : (partL k l).length ≤ Ex.sum l := by
  induction l with
  | nil => simp [partL]
  | cons e l ih =>
    have h := part_len k e
    simp only [partL, List.flatMap_cons, List.length_append, Ex.sum, List.map_cons, List.sum_cons] at *
    omega
theorem whole_len (k : Nat) (l : List Ex) : (partL k ((partL k l).map nfE)).length ≤ Ex.sum l :=
  Nat.le_trans (parts_len k _) (Nat.le_trans (sum_nf _) (sum_parts k l))
theorem leaf_nf {e : Ex} {k : Nat} {s : Ws} {ks : List Rx} (h : e.rx = .node k s ks) (h4 : e.isSeq = false) (h5 : e.isAlt = false) (h6 : e.isStar = false) : (nfE e).rx = .node k s [] := by
  cases e with
  | empty => rw [← show ks = [] from by simp only [Ex.rx] at h; injection h with _ _ h3; exact h3.symm, ← h]; rfl
  | eps => rw [← show ks = [] from by simp only [Ex.rx] at h; injection h with _ _ h3; exact h3.symm, ← h]; rfl
  | cls s => rw [← show ks = [] from by simp only [Ex.rx] at h; injection h with _ _ h3; exact h3.symm, ← h]; rfl
  | seq a b => cases h4
  | alt a b => cases h5
  | star a => cases h6
set_option maxHeartbeats 4000000 in
set_option maxRecDepth 100000 in
theorem normal_leaf {e : Ex} (h4 : e.isSeq = false) (h5 : e.isAlt = false) (h6 : e.isStar = false) {ok : Nat → Prop} (v : Value) (w : World) (h : ReAt ok w v e.rx) : Calls Tryz.prog 78 #[v] w (NewPost (nfE e).rx w) := by
  obtain ⟨ka, ⟨sa, sb, sc, sd⟩, ksa, hsa⟩ := rx_form e
  rw [hsa] at h
  obtain ⟨hk256, hsok, al, cap, rfl, hcap, _, hrow⟩ := h
  simp only
  rw [leaf_nf hsa h4 h5 h6]
  have k4a := kind_seq hsa
  have k5a := kind_alt hsa
  have k6a := kind_star hsa
  rw [h4] at k4a
  rw [h5] at k5a
  rw [h6] at k6a
  have HS := Lib.hid hsok
  clear hrow hcap hsa h4 h5 h6 hsok
  go_enter Tryz.func78, Tryz.ntmps78
  go_wp2
  exact ret_re (blk_at _ _ (by simp)) Tryz.results78 rfl rfl ⟨_, rfl, bareAt _ _ ka ⟨sa, sb, sc, sd⟩ hk256 HS.out, al2 w _ _⟩
set_option maxHeartbeats 8000000 in
set_option maxRecDepth 100000 in
theorem normal_step {N : Nat} (hN : N < 800000) (ih : NrmC N) : NrmC (N + 1) := by
  intro e hs hw ok v w h
  have h0 := h
  obtain ⟨ka, ⟨sa, sb, sc, sd⟩, ksa, hsa⟩ := rx_form e
  rw [hsa] at h
  obtain ⟨hk256, hsok, al, cap, rfl, hcap, _, hrow⟩ := h
  simp only at h0 ⊢
  have B := Lib.hid (Bn1.new w (.cells #[.int .u8 ka, .int .u64 sa, .int .u64 sb, .int .u64 sc, .int .u64 sd, .slice al ksa.length cap] 27))
  have IH := Lib.hid ih
  clear ih
  have k4a := kind_seq hsa
  have k5a := kind_alt hsa
  have k6a := kind_star hsa
  cases e with
  | seq a b =>
    simp only [Ex.rx] at hsa
    injection hsa with e1 e2 e3
    subst e1
    subst e3
    simp only [Ex.size] at hs
    have hsum : Ex.sum [a, b] < 900000 := by simp [Ex.sum]; omega
    obtain ⟨L, hL⟩ : ∃ L, L = (partL 4 [a, b]).map nfE := ⟨_, rfl⟩
    have hwl := Nat.lt_of_le_of_lt (whole_len 4 [a, b]) hsum
    have hpl := Nat.lt_of_le_of_lt (parts_len 4 [a, b]) hsum
    have KN := Lib.hid fun W (hb : Below w.heap.size w W) => normals_any (k := 4) IH.out (.inl rfl) ok [a, b] al cap W (fun x hx => by
      simp at hx
      rcases hx with rfl | rfl
      · exact ⟨by omega, hw.1⟩
      · exact ⟨by omega, hw.2⟩) (by simp) (by omega) (hrow.below hb)
    have KS := Lib.hid fun ok al cap W (h : RowAt ok W al (L.map Ex.rx)) => nmSeq_any ok L al cap W (by have := parts_len 4 [a, b]; rw [hL, List.length_map]; omega) (by rw [hL]; omega) h
    rw [← hL] at KN
    have hnode := seq_node a b
    rw [← hL] at hnode
    rw [hnode] at KS
    rw [show ([a, b] : List Ex).length = 2 from rfl, show (((4 : Nat) : Int)) = 4 from rfl] at KN
    rw [show ([a.rx, b.rx] : List Rx).length = 2 from rfl, show (((4 : Nat) : Int)) = 4 from rfl] at B ⊢
    generalize nfE (.seq a b) = res at *
    clear h0 hL hnode hwl hpl hsum k4a k5a k6a hw hrow hcap hsok e2 IH hk256
    go_enter Tryz.func78, Tryz.ntmps78
    go_wp2_with fail
    refine (KN.out _ B.out.2.2).mono ?_
    rintro x w1 ⟨al2, cap2, rfl, hcp, hr, hb1⟩
    have B1 := Lib.hid (B.out.go hb1)
    have KS1 := Lib.hid (KS.out _ al2 cap2 w1 hr)
    clear hcp hr hb1 B KN KS
    go_wp2_with fail
    refine KS1.out.mono ?_
    rintro x w2 ⟨v1, rfl, hv1, hb2⟩
    obtain ⟨p0, p1, p2, p3, p4, pl, pn, pc, rfl⟩ := cells_re hv1
    have B2 := Lib.hid (B1.out.go hb2)
    have HV := Lib.hid hv1
    have hlt := (Array.getElem?_eq_some_iff.1 B1.out.2.1).1
    clear hv1 hb2 KS1 B1
    obtain ⟨c0, c1, c2, c3, c4, c5, f0, f1, f2, f3, f4, f5⟩ := cellsR B2.out.2.1
    go_wp2
    exact ret_new B2.out.2.1 HV.out hlt B2.out.2.2 (by omega) Tryz.results78 rfl rfl
  | alt a b =>
    simp only [Ex.rx] at hsa
    injection hsa with e1 e2 e3
    subst e1
    subst e3
    simp only [Ex.size] at hs
    have hsum : Ex.sum [a, b] < 900000 := by simp [Ex.sum]; omega
    obtain ⟨L, hL⟩ : ∃ L, L = (partL 5 [a, b]).map nfE := ⟨_, rfl⟩
    have hwl := Nat.lt_of_le_of_lt (whole_len 5 [a, b]) hsum
    have hpl := Nat.lt_of_le_of_lt (parts_len 5 [a, b]) hsum
    have KN := Lib.hid fun W (hb : Below w.heap.size w W) => normals_any (k := 5) IH.out (.inr rfl) ok [a, b] al cap W (fun x hx => by
      simp at hx
      rcases hx with rfl | rfl
      · exact ⟨by omega, hw.1⟩
      · exact ⟨by omega, hw.2⟩) (by simp) (by omega) (hrow.below hb)
    have KS := Lib.hid fun ok al cap W (h : RowAt ok W al (L.map Ex.rx)) => nmAlt_any ok L al cap W (by have := parts_len 5 [a, b]; rw [hL, List.length_map]; omega) (by rw [hL]; omega) h
    rw [← hL] at KN
    have hnode := alt_node hw
    rw [← hL] at hnode
    rw [hnode] at KS
    rw [show ([a, b] : List Ex).length = 2 from rfl, show (((5 : Nat) : Int)) = 5 from rfl] at KN
    rw [show ([a.rx, b.rx] : List Rx).length = 2 from rfl, show (((5 : Nat) : Int)) = 5 from rfl] at B ⊢
    generalize nfE (.alt a b) = res at *
    clear h0 hL hnode hwl hpl hsum k4a k5a k6a hw hrow hcap hsok e2 IH hk256
    go_enter Tryz.func78, Tryz.ntmps78
    go_wp2_with fail
    refine (KN.out _ B.out.2.2).mono ?_
    rintro x w1 ⟨al2, cap2, rfl, hcp, hr, hb1⟩
    have B1 := Lib.hid (B.out.go hb1)
    have KS1 := Lib.hid (KS.out _ al2 cap2 w1 hr)
    clear hcp hr hb1 B KN KS
    go_wp2_with fail
    refine KS1.out.mono ?_
    rintro x w2 ⟨v1, rfl, hv1, hb2⟩
    obtain ⟨p0, p1, p2, p3, p4, pl, pn, pc, rfl⟩ := cells_re hv1
    have B2 := Lib.hid (B1.out.go hb2)
    have HV := Lib.hid hv1
    have hlt := (Array.getElem?_eq_some_iff.1 B1.out.2.1).1
    clear hv1 hb2 KS1 B1
    obtain ⟨c0, c1, c2, c3, c4, c5, f0, f1, f2, f3, f4, f5⟩ := cellsR B2.out.2.1
    go_wp2
    exact ret_new B2.out.2.1 HV.out hlt B2.out.2.2 (by omega) Tryz.results78 rfl rfl
  | star a =>
    simp only [Ex.rx] at hsa
    injection hsa with e1 e2 e3
    subst e1
    subst e3
    simp only [Ex.size] at hs
    obtain ⟨bk, off, rfl, hlt0, hn0⟩ := hrow.kid (i := 0) (by simp)
    simp only [List.getElem_cons_zero, Nat.zero_mul, Nat.add_zero] at hn0
    obtain ⟨kc, ⟨ca, cb, cc, cd⟩, ksc, hsc⟩ := rx_form a
    rw [hsc] at hn0
    obtain ⟨al0, cap0, i6, hrc⟩ := hn0.read
    simp only at i6 hrc
    rw [← hsc] at hrc
    have I6 := Lib.hid i6
    have KN := Lib.hid fun W (hb : Below w.heap.size w W) => IH.out a (by omega) hw ok _ W (hrc.below hb)
    have KS := Lib.hid fun ok v W (h : ReAt ok W v (nfE a).rx) => nstar_any (nfE a) ok v W h
    rw [show nfE (.star a) = starE (nfE a) from rfl]
    generalize starE (nfE a) = res at *
    generalize nfE a = na at *
    rw [show ([a.rx] : List Rx).length = 1 from rfl, show (((6 : Nat) : Int)) = 6 from rfl] at B ⊢
    have hcap1 : 1 ≤ cap := by simpa using hcap
    obtain ⟨c0, c1, c2, c3, c4, c5⟩ := six_keep hlt0 I6.out B.out.2.2
    clear h0 k4a k5a k6a hw hrow hcap hsok e2 IH hk256 hrc hsc hn0 i6
    go_enter Tryz.func78, Tryz.ntmps78
    go_wp2_with fail
    refine (KN.out _ B.out.2.2).mono ?_
    rintro x w1 ⟨v1, rfl, hv1, hb1⟩
    have B1 := Lib.hid (B.out.go hb1)
    have KS1 := Lib.hid (KS.out _ v1 w1 hv1)
    have hs1 := hb1.size
    clear hv1 hb1 KN KS c0 c1 c2 c3 c4 c5
    go_wp2_with fail
    refine KS1.out.mono ?_
    rintro x w2 ⟨v2, rfl, hv2, hb2⟩
    obtain ⟨p0, p1, p2, p3, p4, pl, pn, pc, rfl⟩ := cells_re hv2
    have B2 := Lib.hid (B1.out.go hb2)
    have HV := Lib.hid (hv2.imp (ok' := New (w.heap.size + 2)) fun b _ h => by
      unfold New at *
      rcases h with h | h
      · simpa using h
      · simp at hs1; omega)
    clear hv2 hb2 KS1 B1 B hs1
    obtain ⟨c0, c1, c2, c3, c4, c5, f0, f1, f2, f3, f4, f5⟩ := cellsR B2.out.2.1
    go_wp2
    exact ret_new B2.out.2.1 HV.out (by omega) B2.out.2.2 (by omega) Tryz.results78 rfl rfl
  | empty => exact normal_leaf rfl rfl rfl _ w h0
  | eps => exact normal_leaf rfl rfl rfl _ w h0
  | cls s => exact normal_leaf rfl rfl rfl _ w h0
theorem normal_all : ∀ N, N ≤ 800000 → NrmC N
  | 0, _ => fun e h => absurd h (by have := e.size_pos; omega)
  | N + 1, h => normal_step (by omega) (normal_all N (by omega))
theorem normal_any {e : Ex} (hs : e.size ≤ 800000) (hw : e.Wf) {ok : Nat → Prop} (v : Value) (w : World) (h : ReAt ok w v e.rx) : Calls Tryz.prog 78 #[v] w (NewPost (nfE e).rx w) :=
  normal_all 800000 (Nat.le_refl _) e hs hw ok v w h
open Go.RowKit
theorem normX_no {r : Rx} (h : mayR r = false) : normX r = .node 0 Ws.nil [] := by unfold normX; rw [exX_no h]; rfl
theorem normX_of {e : Ex} (we : e.Wf) (hs : e.size ≤ 2000) : normX e.rx = (nfE e).rx := by unfold normX; rw [exX_of we hs]; rfl
set_option maxHeartbeats 2000000 in
set_option maxRecDepth 100000 in
theorem normL_any {ok : Nat → Prop} (r : Rx) (v : Value) (w : World) (h : ReAt ok w v r) :
    Calls Tryz.prog 56 #[v] w (NewPost (normX r) w) := by
  obtain ⟨x0, x1, x2, x3, x4, xl, xn, xc, rfl⟩ := cells_re h
  have B := Lib.hid (Bn1.new w (.cells #[.int .u8 x0, .int .u64 x1, .int .u64 x2, .int .u64 x3, .int .u64 x4, .slice xl xn xc] 27))
  have HB2 := Lib.hid (al2 w (.cells #[.int .u8 x0, .int .u64 x1, .int .u64 x2, .int .u64 x3, .int .u64 x4, .slice xl xn xc] 27) zR)
  have hr := row_new (h.below HB2.out)
  have hsz : ((w.alloc (.cells #[.int .u8 x0, .int .u64 x1, .int .u64 x2, .int .u64 x3, .int .u64 x4, .slice xl xn xc] 27)).alloc zR).heap.size = w.heap.size + 2 := by simp
  rw [hsz] at hr
  have HR := Lib.hid hr
  have KM := Lib.hid fun (al : Option Addr) (W : World) (h : RowAt (fun _ => True) W al [r]) => mayX [r] al 1 W (by simp) h
  rw [show [r].length = 1 from rfl, show [r].all mayR = mayR r from by simp] at KM
  have B3 := Lib.hid (B.out.go ((Below.refl _ _).alloc (Nat.le_refl _) (.cells #[.int .u8 x0, .int .u64 x1, .int .u64 x2, .int .u64 x3, .int .u64 x4, .slice xl xn xc] 27)))
  cases hm : mayR r with
  | false =>
    rw [normX_no hm]
    rw [hm] at KM
    clear hm h hr hsz B HB2
    go_enter Tryz.func56, Tryz.ntmps56
    go_wp2_with fail
    refine (KM.out _ _ HR.out).mono ?_
    rintro e w1 ⟨rfl, hb1⟩
    have B1 := Lib.hid (B3.out.go hb1)
    clear hb1 B3 KM HR
    obtain ⟨c0, c1, c2, c3, c4, c5, f0, f1, f2, f3, f4, f5⟩ := cellsR B1.out.2.1
    go_wp2
    exact ret_re (putR B1.out.2.1 _ _ _ _ _ _) Tryz.results56 rfl rfl ⟨_, rfl, bareAt _ _ 0 Ws.nil (by decide) Ws.nil_ok, putB B1.out.2.2 (by omega) _ _ _ _ _ _⟩
  | true =>
    obtain ⟨e0, he0, we, hs⟩ := may_ex h hm
    rw [show normX r = (nfE e0).rx from by rw [← he0]; exact normX_of we hs]
    rw [hm] at KM
    have KN := Lib.hid fun W (hb : Below w.heap.size w W) => normal_any (e := e0) (by omega) we (.agg #[.int .u8 x0, .int .u64 x1, .int .u64 x2, .int .u64 x3, .int .u64 x4, .slice xl xn xc]) W (by rw [he0]; exact h.below hb)
    clear hm h he0 hr hsz B HB2
    go_enter Tryz.func56, Tryz.ntmps56
    go_wp2_with fail
    refine (KM.out _ _ HR.out).mono ?_
    rintro e w1 ⟨rfl, hb1⟩
    have B1 := Lib.hid (B3.out.go hb1)
    clear hb1 B3 KM HR
    obtain ⟨c0, c1, c2, c3, c4, c5, -⟩ := cellsR B1.out.1
    go_wp2_with fail
    refine (KN.out _ B1.out.2.2).mono ?_
    rintro e w2 ⟨v2, rfl, hv2, hb2⟩
    obtain ⟨q0, q1, q2, q3, q4, ql, qn, qc, rfl⟩ := cells_re hv2
    have B2 := Lib.hid (B1.out.go hb2)
    have HV := Lib.hid hv2
    have hlt := (Array.getElem?_eq_some_iff.1 B1.out.2.1).1
    clear hv2 hb2 B1 c0 c1 c2 c3 c4 c5
    obtain ⟨c0, c1, c2, c3, c4, c5, f0, f1, f2, f3, f4, f5⟩ := cellsR B2.out.2.1
    go_wp2
    exact ret_new B2.out.2.1 HV.out hlt B2.out.2.2 (by omega) Tryz.results56 rfl rfl
open Go.RowKit
def TwV (ok : Nat → Prop) (p : Rx × Nat) (x : Value) (w : World) : Prop := ∃ (p0 p1 p2 p3 p4 : Int) (pl : Option Addr) (pn pc : Nat), x = .tuple #[.agg #[.int .u8 p0, .int .u64 p1, .int .u64 p2, .int .u64 p3, .int .u64 p4, .slice pl pn pc], .int .i64 p.2] ∧ ReAt ok w (.agg #[.int .u8 p0, .int .u64 p1, .int .u64 p2, .int .u64 p3, .int .u64 p4, .slice pl pn pc]) p.1
theorem TwV.of {ok ok' : Nat → Prop} {w : World} {v : Value} {p : Rx × Nat} (h : ReAt ok w v p.1) (hi : ∀ b, b < w.heap.size → ok b → ok' b) : TwV ok' p (.tuple #[v, .int .i64 p.2]) w := by
  obtain ⟨p0, p1, p2, p3, p4, pl, pn, pc, rfl⟩ := cells_re h
  exact ⟨p0, p1, p2, p3, p4, pl, pn, pc, rfl, h.imp hi⟩
def SP.tw (ok : Nat → Prop) (p : Rx × Nat) : SP := ⟨TwV ok p, fun _ _ _ ⟨p0, p1, p2, p3, p4, pl, pn, pc, h1, h2⟩ hb => ⟨p0, p1, p2, p3, p4, pl, pn, pc, h1, h2.below hb⟩⟩
def RxW (ok : Nat → Prop) (r : Rx) (x : Value) (w : World) : Prop := ∃ (p0 p1 p2 p3 p4 : Int) (pl : Option Addr) (pn pc : Nat), x = .agg #[.int .u8 p0, .int .u64 p1, .int .u64 p2, .int .u64 p3, .int .u64 p4, .slice pl pn pc] ∧ ReAt ok w (.agg #[.int .u8 p0, .int .u64 p1, .int .u64 p2, .int .u64 p3, .int .u64 p4, .slice pl pn pc]) r
def SP.rw9 (ok : Nat → Prop) (r : Rx) : SP := ⟨RxW ok r, fun _ _ _ ⟨p0, p1, p2, p3, p4, pl, pn, pc, h1, h2⟩ hb => ⟨p0, p1, p2, p3, p4, pl, pn, pc, h1, h2.below hb⟩⟩
structure Telling (B o fn : Nat) (cs : Array Value) (I : (Nat → Prop) → Value → List Ex → World → Prop) : Prop where
  enter : ∀ v w, Sem.run Tryz.prog (callFunc fn (#[v] ++ cs)) w = .ok (.enter fn (#[v] ++ cs)) w
  own : ∀ X v done w, I X v done w → (∀ c, X c → c < w.heap.size) ∧ (∀ g, v.ownBlock = some g → B ≤ g ∧ g < w.heap.size ∧ ¬ X g) ∧ B ≤ w.heap.size ∧ X o ∧ B ≤ o
  keep : ∀ X v done w w', I X v done w → Below w.heap.size w w' → I X v done w'
  more : ∀ X v done w w' c, I X v done w → Below w.heap.size w w' → w.heap.size ≤ c → c < w'.heap.size → I (fun b => X b ∨ b = c) v done w'
  other : ∀ X v done w w' c, I X v done w → X c → c ≠ o → w.heap.size ≤ w'.heap.size → (∀ b, b ≠ c → b < w.heap.size → w'.heap[b]? = w.heap[b]?) → I X v done w'
  step : ∀ X v done (e : Ex) x w, I X v done w → done.length < 1000000 → ReAt (fun b => B ≤ b ∧ ¬ X b ∧ v.ownBlock ≠ some b) w x e.rx → Calls Tryz.prog fn (#[x] ++ cs) w fun z w' => z = .returned (.tuple #[]) ∧ (∃ v', I X v' (done ++ [e]) w') ∧ Below B w w' ∧ ∀ b, b < w.heap.size → b ≠ o → v.ownBlock ≠ some b → w'.heap[b]? = w.heap[b]?
theorem wlk_snoc (s : List UInt8) (c : UInt8) : ∀ {x y : Ex} {l : List Ex}, wlkE x s = some l → wrdE x s = some y → wlkE x (s ++ [c]) = (stpE c y).map fun z => l ++ [z] := by
  induction s with
  | nil =>
    intro x y l h1 h2
    injection h1 with h1
    injection h2 with h2
    subst h1 h2
    simp only [List.nil_append, wlkE]
    cases stpE c x <;> rfl
  | cons d s ih =>
    intro x y l h1 h2
    simp only [wlkE, wrdE, List.cons_append] at h1 h2 ⊢
    cases hd : stpE d x with
    | none => rw [hd] at h1; cases h1
    | some z =>
      rw [hd] at h1 h2
      simp only at h1 h2 ⊢
      cases hw : wlkE z s with
      | none => rw [hw] at h1; cases h1
      | some m =>
        rw [hw] at h1
        injection h1 with h1
        subst h1
        rw [ih hw h2]
        cases stpE c y <;> rfl
theorem wlk_dead {x y : Ex} {s t : List UInt8} {c : UInt8} (h : wrdE x s = some y) (hc : stpE c y = none) : wlkE x (s ++ c :: t) = none := by
  rw [wlk_none, wrd_append, h]
  simp only [Option.bind_some, wrdE, hc]
theorem take_byte (s : ByteArray) (i : Nat) (h : i < s.size) : s.data.toList.take (i + 1) = s.data.toList.take i ++ [s[i]] := by
  have h' : i < s.data.toList.length := by rw [Array.length_toList]; exact h
  rw [List.take_succ_eq_append_getElem h']
  rfl
theorem cut_byte (s : ByteArray) (i : Nat) (h : i < s.size) : s.data.toList = s.data.toList.take i ++ s[i] :: s.data.toList.drop (i + 1) := by
  have h' : i < s.data.toList.length := by rw [Array.length_toList]; exact h
  have := List.take_append_drop (i + 1) s.data.toList
  rw [take_byte s i h, List.append_assoc] at this
  exact this.symm
def Told (x0 : Ex) (s : List UInt8) (done : List Ex) (n : Nat) : Prop := (n = 0 ∧ wlkE x0 s = some done) ∨ (n = 4 ∧ wlkE x0 s = none)
def EchPost (B : Nat) (I : (Nat → Prop) → Value → List Ex → World → Prop) (q : List Ex → Nat → Prop) (w : World) (e : Ending) (w' : World) : Prop := ∃ (X : Nat → Prop) (v : Value) (done : List Ex) (n : Nat), e = .returned (.int .i64 n) ∧ I X v done w' ∧ Below B w w' ∧ q done n
def echInv (B gl : Nat) (x0 : Ex) (s : ByteArray) (X : Nat → Prop) (I : (Nat → Prop) → Value → List Ex → World → Prop) (w : World) (y : Value) (wr : World) : Prop := ∃ (i : Nat) (done : List Ex) (cur : Ex) (v : Value) (l0 l1 l2 l3 l4 : Int) (ll : Option Addr) (ln lc : Nat), i ≤ s.size ∧ y = .int .i64 i ∧ I X v done wr ∧ wlkE x0 (s.data.toList.take i) = some done ∧ wrdE x0 (s.data.toList.take i) = some cur ∧ done.length = i + 1 ∧ wr.heap[gl]? = some (.cells #[.int .u8 l0, .int .u64 l1, .int .u64 l2, .int .u64 l3, .int .u64 l4, .slice ll ln lc] 27) ∧ ReAt (fun _ => True) wr (.agg #[.int .u8 l0, .int .u64 l1, .int .u64 l2, .int .u64 l3, .int .u64 l4, .slice ll ln lc]) cur.rx ∧ Below B w wr
theorem lim_two (c : UInt8) (x : Ex) : (∃ y, stpE c x = some y ∧ y = nfE (derE c x) ∧ limX c x = ((derE c x).rx, 0) ∧ (derE c x).size ≤ 2000) ∨ (stpE c x = none ∧ limX c x = (zeroX, 4)) := by
  unfold stpE limX
  by_cases h : (derE c x).size ≤ 2000
  · rw [if_pos h, if_pos h]; exact .inl ⟨_, rfl, rfl, rfl, h⟩
  · rw [if_neg h, if_neg h]; exact .inr ⟨rfl, rfl⟩
def echPsi (rn : Nat) (i : Nat) (x : Value) : Prop := match i with
  | 5 => ∃ y, x = .tuple #[y, .int .i64 rn]
  | 7 => x = .int .i64 rn
  | 10 => x = .int .i64 rn
  | _ => True
def echG (B : Nat) (rr : Rx) (v : Value) (w : World) : Prop := ∃ (g : Nat) (p0 p1 p2 p3 p4 : Int) (pl : Option Addr) (pn pc : Nat), v = .pointer (some ⟨g, 0, none⟩) ∧ B ≤ g ∧ w.heap[g]? = some (.cells #[.int .u8 p0, .int .u64 p1, .int .u64 p2, .int .u64 p3, .int .u64 p4, .slice pl pn pc] 27) ∧ ∀ e : Ex, rr = e.rx → ReAt (fun _ => True) w (.agg #[.int .u8 p0, .int .u64 p1, .int .u64 p2, .int .u64 p3, .int .u64 p4, .slice pl pn pc]) rr
set_option maxRecDepth 100000 in
set_option maxHeartbeats 8000000 in
theorem ech_loop {B o fn : Nat} {cs : Array Value} {I : (Nat → Prop) → Value → List Ex → World → Prop} (hT : Telling B o fn cs I) (r : Rx) (s : ByteArray) (e0 : Ex) (he : e0.rx = r) (we : e0.Wf) (hs : e0.size ≤ 2000) (hz : s.size ≤ 100000) {X : Nat → Prop} {v : Value} {ok : Nat → Prop} (vr : Value) (w : World) (hI : I X v [] w) (h : ReAt ok w vr r) :
    Calls Tryz.prog 32 #[vr, .string s, .func (.func fn) #[] cs] w (EchPost B I (Told (nfE e0) s.data.toList) w) := by
  obtain ⟨x0, x1, x2, x3, x4, xl, xn, xc, rfl⟩ := cells_re h
  have HT := Lib.hid hT
  have hm : mayR r = true := by rw [← he, mayE we]; simpa using hs
  have hBw := (hT.own _ _ _ _ hI).2.2.1
  have x0s : (nfE e0).size ≤ 2000 := Nat.le_trans (nf_size e0) hs
  have x0w := nf_wf e0 we
  have x0n := nf_again e0 we
  have hnx : normX r = (nfE e0).rx := by rw [← he]; exact normX_of we hs
  have hb0 := bel_al w (.cells #[.int .u8 x0, .int .u64 x1, .int .u64 x2, .int .u64 x3, .int .u64 x4, .slice xl xn xc] 27)
  have X0 := Lib.hid (blk_new w (.cells #[.int .u8 x0, .int .u64 x1, .int .u64 x2, .int .u64 x3, .int .u64 x4, .slice xl xn xc] 27))
  have KM := Lib.hid fun g W (h : RowAt (fun _ => True) W (some ⟨g, 0, none⟩) [r]) => may_one r g W h
  rw [hm] at KM
  have KN := Lib.hid fun W (hb : Below w.heap.size w W) => normL_any r _ W (h.below hb)
  rw [hnx] at KN
  have HB0 := Lib.hid hb0
  have K1 := Lib.hid (KM.out (w.heap.size + 1) ((w.alloc (.cells #[.int .u8 x0, .int .u64 x1, .int .u64 x2, .int .u64 x3, .int .u64 x4, .slice xl xn xc] 27)).alloc (.cells #[.int .u8 x0, .int .u64 x1, .int .u64 x2, .int .u64 x3, .int .u64 x4, .slice xl xn xc] 27)) (row_one (blk_at _ _ (by simp)) trivial (((h.below hb0).below (bel_al _ _)).imp fun _ _ _ => trivial)))
  generalize nfE e0 = z0 at *
  have HI := Lib.hid hI
  have HBW := Lib.hid hBw
  clear hT hm hnx hb0 h he we hs KM hI hBw
  go_enter Tryz.func32, Tryz.ntmps32
  go_wp2_with fail
  refine K1.out.mono ?_
  rintro x w1 ⟨rfl, hb1⟩
  have H1 := Lib.hid (HB0.out.trans ((bel_al _ _).trans (hb1.mono (by simp)) |>.mono (by simp)))
  obtain ⟨c0, c1, c2, c3, c4, c5, -⟩ := cellsR ((hb1.block _ (by simp; omega)).trans ((Below.heap_alloc _ (.cells #[.int .u8 x0, .int .u64 x1, .int .u64 x2, .int .u64 x3, .int .u64 x4, .slice xl xn xc] 27) _ (by simp)).trans X0.out))
  have K2 := Lib.hid (KN.out w1 H1.out)
  clear hb1 K1 KN X0 HB0
  go_wp2_with fail
  refine K2.out.mono ?_
  rintro x w2 ⟨v2, rfl, hv2, hb2⟩
  obtain ⟨q0, q1, q2, q3, q4, ql, qn, qc, rfl⟩ := cells_re hv2
  have H2 := Lib.hid (H1.out.trans (hb2.mono H1.out.size))
  have HV := Lib.hid hv2
  clear hv2 hb2 K2 c0 c1 c2 c3 c4 c5
  go_wp2_with fail
  obtain ⟨V, hV⟩ : ∃ V, V = w2.alloc (.cells #[.int .u8 q0, .int .u64 q1, .int .u64 q2, .int .u64 q3, .int .u64 q4, .slice ql qn qc] 27) := ⟨_, rfl⟩
  obtain ⟨gl, hgl⟩ : ∃ g, g = w2.heap.size := ⟨_, rfl⟩
  rw [← hV, ← hgl]
  obtain ⟨o1, o2, o3, o4, o5⟩ := HT.out.own _ _ _ _ HI.out
  have hs1 := H1.out.size
  have hs2 := H2.out.size
  have hlo : gl < V.heap.size := by rw [hV, hgl]; simp
  have hgb : B ≤ gl := by omega
  have HO4 := Lib.hid o4
  have hgo : gl ≠ o := fun e => by have := o1 o o4; omega
  have hI2 := HT.out.keep _ _ _ _ _ HI.out H2.out
  have IV := HT.out.more _ _ _ _ V gl hI2 (by rw [hV]; exact bel_al _ _) (by rw [hgl]; exact Nat.le_refl _) hlo
  have XV : V.heap[gl]? = some (.cells #[.int .u8 q0, .int .u64 q1, .int .u64 q2, .int .u64 q3, .int .u64 q4, .slice ql qn qc] 27) := by rw [hV, hgl]; exact blk_new _ _
  have HSV : ReAt (fun b => B ≤ b ∧ ¬ (X b ∨ b = gl) ∧ v.ownBlock ≠ some b) V (.agg #[.int .u8 q0, .int .u64 q1, .int .u64 q2, .int .u64 q3, .int .u64 q4, .slice ql qn qc]) z0.rx := by
    rw [hV]
    refine ReAt.below (HV.out.imp fun b hb hn => ?_) (bel_al _ _)
    have hn' : w1.heap.size ≤ b := hn
    exact ⟨by omega, fun hx => hx.elim (fun hx => by have := o1 b hx; omega) (fun hx => by omega), fun hx => by have := (o2 b hx).2.1; omega⟩
  have KS := Lib.hid (HT.out.step _ _ _ z0 _ V IV (by simp) HSV)
  have HSVh := Lib.hid HSV
  have HXV := Lib.hid XV
  have HIV := Lib.hid IV
  have HBV := Lib.hid (show Below B w V from (H2.out.mono o3).trans (by rw [hV]; exact (bel_al _ _).mono (by omega)))
  have hov : v.ownBlock ≠ some gl := fun e => by have := (o2 gl e).2.1; omega
  have HOV := Lib.hid hov
  clear hV hgl HV H2 H1 HI hI2 IV XV HSV o1 o2 o3 o4 o5 hs1 hs2 hov
  rw [HT.out.enter]
  refine KS.out.mono ?_
  rintro z w3 ⟨rfl, ⟨v3, hI3⟩, hs3, hf3⟩
  have HIN : Hid (echInv B gl z0 s (fun b => X b ∨ b = gl) I w (.int .i64 ((0 : Nat) : Int)) w3) := Lib.hid ⟨0, [z0], z0, v3, q0, q1, q2, q3, q4, ql, qn, qc, Nat.zero_le _, rfl, hI3, rfl, rfl, rfl, (hf3 gl hlo hgo HOV.out).trans HXV.out, HSVh.out.go ⟨hs3.size, fun b hb h => ⟨trivial, hf3 b hb (fun e => h.2.1 (by rw [e]; exact (HT.out.own _ _ _ _ HIV.out).2.2.2.1)) h.2.2⟩⟩, HBV.out.trans hs3⟩
  clear hI3 hs3 hf3 KS HSVh HXV HIV HBV HOV hlo
  rw [show ((0 : Nat) : Int) = 0 from rfl] at HIN
  go_wp2
  go_loopw [22] (fun y W => echInv B gl z0 s (fun b => X b ∨ b = gl) I w y W) (fun y _ => s.size - (intOf y).toNat)
  case atStart => exact HIN.out
  case round =>
    clear HIN
    obtain ⟨i, done, cur, v, l0, l1, l2, l3, l4, ll, ln, lc, hi, rfl, hIr, hwl, hwd, hdl, hXl, hRl, hbr⟩ := hrel
    have HI := Lib.hid hIr
    have HWL := Lib.hid hwl
    have HWD := Lib.hid hwd
    have HDL := Lib.hid hdl
    have HXL := Lib.hid hXl
    have HRL := Lib.hid hRl
    have HBR := Lib.hid hbr
    clear hIr hwl hwd hdl hXl hRl hbr
    by_cases hlt : i < s.size
    · obtain ⟨cw, csz, cn, -⟩ := wrd_fit _ HWD.out x0w x0s x0n
      have HSN := Lib.hid (wlk_snoc _ s[i] HWL.out HWD.out)
      have HWA := Lib.hid (wrd_append (s.data.toList.take i) [s[i]] z0)
      have HDD := Lib.hid (wlk_dead (c := s[i]) (t := s.data.toList.drop (i + 1)) HWD.out)
      rw [← take_byte s i hlt] at HSN HWA
      rw [← cut_byte s i hlt] at HDD
      have KL0 := Lib.hid fun x (hx : Below wr.heap.size wr x) => limited_any s[i] cur cw csz (.agg #[.int .u8 l0, .int .u64 l1, .int .u64 l2, .int .u64 l3, .int .u64 l4, .slice ll ln lc]) x (HRL.out.below hx)
      have HLIM := Lib.hid (lim_two s[i] cur)
      obtain ⟨⟨rr, rn⟩, hp⟩ : ∃ p, p = limX s[i] cur := ⟨_, rfl⟩
      rw [← hp] at KL0 HLIM
      have KL := KL0
      have HDW := Lib.hid (der_wf s[i] cur cw)
      have CL := Lib.hid fun x (hx : Below wr.heap.size wr x) => cellsR ((hx.block gl (Array.getElem?_eq_some_iff.1 HXL.out).1).trans HXL.out)
      have q1 : (i : Int) < (s.size : Int) := by omega
      clear hp KL0 cw csz cn
      go_wp2_with fail
      refine wp_region_orderS 9 (fun j => [0, 0, 0, 0, 0, 0, 0, 1, 0, 2, 1].getD j 0) (fun j => ([SP.eq (.agg #[.int .u8 l0, .int .u64 l1, .int .u64 l2, .int .u64 l3, .int .u64 l4, .slice ll ln lc]), SP.eq (.string s), SP.eq (.int .i64 i), SP.eq (.int .u8 (s[i]'hlt).toNat), SP.tw (fun _ => True) (rr, rn), SP.tw (fun _ => True) (rr, rn), SP.rw9 (fun _ => True) rr, SP.eq (.int .i64 rn), SP.vz wr.heap.size, SP.free, SP.eq (.int .i64 rn)] : List SP).getD j SP.free) (echPsi rn) (OmS 9 (echG wr.heap.size rr)) ?_ (omS_kept _ _ (by kernel_rfl)) (by kernel_rfl) (by kernel_rfl) ⟨?_, ?_, ?_, ?_, ?_, ?_, ?_, ?_, ?_, ?_, ?_, trivial⟩ ?_
      · intro j x w h
        match j, h with
        | 0, _ => trivial
        | 1, _ => trivial
        | 2, _ => trivial
        | 3, _ => trivial
        | 4, _ => trivial
        | 5, h => obtain ⟨p0, p1, p2, p3, p4, pl, pn, pc, rfl, _⟩ := h; exact ⟨_, rfl⟩
        | 6, _ => trivial
        | 7, h => exact h
        | 8, _ => trivial
        | 9, _ => trivial
        | 10, h => exact h
        | n + 11, _ => trivial
      · intro a x K out get hb hK
        rw [if_pos (wanted_none rfl)]
        have o7 : a.tmps[7]? = some (.pointer (some ⟨gl, 0, none⟩)) := out 7 (by kernel_rfl)
        clear out get
        obtain ⟨c0, c1, c2, c3, c4, c5, -⟩ := CL.out x hb
        go_simp
        exact hK _ _ rfl (Below.refl _ _)
      · intro a x K out get hb hK
        rw [if_pos (wanted_none rfl)]
        have o1 : a.tmps[1]? = some (.string s) := out 1 (by kernel_rfl)
        clear out get
        go_simp
        exact hK _ _ rfl (Below.refl _ _)
      · intro a x K out get hb hK
        rw [if_pos (wanted_none rfl)]
        have o8 : a.tmps[8]? = some (.int .i64 i) := out 8 (by kernel_rfl)
        clear out get
        go_simp
        exact hK _ _ rfl (Below.refl _ _)
      · intro a x K out get hb hK
        rw [if_pos (wanted_none rfl)]
        obtain ⟨y27, hy27, rfl⟩ := get 1 _ _ rfl rfl (by kernel_rfl)
        obtain ⟨y28, hy28, rfl⟩ := get 2 _ _ rfl rfl (by kernel_rfl)
        clear out get
        have hix : (0 : Int) ≤ (i : Int) ∧ (i : Int) < (s.size : Int) := ⟨by omega, by omega⟩
        go_simp
        exact hK _ _ rfl (Below.refl _ _)
      · intro a x K out get hb hK
        rw [if_pos (wanted_none rfl)]
        obtain ⟨y26, hy26, rfl⟩ := get 0 _ _ rfl rfl (by kernel_rfl)
        obtain ⟨y29, hy29, rfl⟩ := get 3 _ _ rfl rfl (by kernel_rfl)
        clear out get
        go_simp
        refine (KL.out x hb).mono ?_
        rintro e w2 ⟨v2, rfl, hv2, hb2⟩
        exact hK _ _ (TwV.of hv2 fun _ _ _ => trivial) hb2
      · intro a x K out get hb hK
        rw [if_pos (wanted_none rfl)]
        obtain ⟨y30, hy30, ⟨p0, p1, p2, p3, p4, pl, pn, pc, rfl, hr30⟩⟩ := get 4 _ _ rfl rfl (by kernel_rfl)
        clear out get
        go_simp
        exact hK _ _ ⟨p0, p1, p2, p3, p4, pl, pn, pc, rfl, hr30⟩ (Below.refl _ _)
      · intro a x K out get hb hK
        rw [if_pos (wanted_none rfl)]
        obtain ⟨y25, hy25, ⟨p0, p1, p2, p3, p4, pl, pn, pc, rfl, hr25⟩⟩ := get 5 _ _ rfl rfl (by kernel_rfl)
        clear out get
        go_simp
        exact hK _ _ ⟨p0, p1, p2, p3, p4, pl, pn, pc, rfl, hr25⟩ (Below.refl _ _)
      · intro a x K out get hK
        rw [if_pos (wanted_none rfl)]
        obtain ⟨y25, hy25, ⟨z25, rfl⟩⟩ := get 5 _ _ rfl rfl (by kernel_rfl)
        clear out get
        go_simp
        exact hK _ rfl (fun _ => rfl)
      · intro a x K out get hb hK
        rw [if_pos (wanted_none rfl)]
        clear out get
        go_simp
        exact hK _ _ ⟨_, rfl, hb.size, by simp, blk_new _ _⟩ (bel_al _ _)
      · intro a x K out get hb hK
        rw [if_pos (wanted_none rfl)]
        obtain ⟨y9, hy9, ⟨g9, rfl, hg1, hg2, hz⟩⟩ := get 8 _ _ rfl rfl (by kernel_rfl)
        obtain ⟨y31, hy31, ⟨p0, p1, p2, p3, p4, pl, pn, pc, rfl, hr31⟩⟩ := get 6 _ _ rfl rfl (by kernel_rfl)
        obtain ⟨c0, c1, c2, c3, c4, c5, f0, f1, f2, f3, f4, f5⟩ := cellsR hz
        have HG := Lib.hid (show g9 < x.heap.size from hg2)
        have HR := Lib.hid hr31
        have HZ := Lib.hid hz
        clear out get hg2 hr31 hz
        go_simp
        exact hK _ ⟨_, hy9, g9, p0, p1, p2, p3, p4, pl, pn, pc, rfl, hg1, putR HZ.out _ _ _ _ _ _, fun e he => by subst he; exact (put_ex HZ.out HR.out).2⟩ (putB hb hg1 _ _ _ _ _ _)
      · intro a x K out get hK
        rw [if_pos (wanted_none rfl)]
        obtain ⟨y32, hy32, rfl⟩ := get 7 _ _ rfl rfl (by kernel_rfl)
        clear out get
        go_simp
        exact hK _ rfl (fun _ => rfl)
      refine ao_finS (isD := fun s => (decide (25 ≤ s) && decide (s ≤ 32)) || decide (s = 9) || decide (s = 10)) (by decide) (by kernel_rfl) ?_
      intro f x hv hom hb
      have e10 : f 10 = .int .i64 rn := hv 10 _ _ rfl rfl
      obtain ⟨v9, h9, g9, p0, p1, p2, p3, p4, pl, pn, pc, rfl, hg9, hX9, hR9⟩ := hom
      have e9 : f 9 = .pointer (some ⟨g9, 0, none⟩) := by simpa [frm] using h9
      clear hv h9
      generalize hF : (Act.mk (List.toArray (frm f _ 0 _)) _) = fr
      simp [frm] at hF
      rw [e10, e9] at hF
      subst hF
      generalize f 25 = u25 at *
      generalize f 26 = u26 at *
      generalize f 27 = u27 at *
      generalize f 28 = u28 at *
      generalize f 29 = u29 at *
      generalize f 30 = u30 at *
      generalize f 31 = u31 at *
      generalize f 32 = u32 at *
      clear e10 e9 f
      have hlw : gl < wr.heap.size := (Array.getElem?_eq_some_iff.1 HXL.out).1
      obtain ⟨o1, o2, o3, o4, o5⟩ := HT.out.own _ _ _ _ HI.out
      have HIX := Lib.hid (HT.out.keep _ _ _ _ _ HI.out hb)
      have HBX := Lib.hid hb
      rcases HLIM.out with ⟨nxt, hs1, hs2, hs3, hs4⟩ | ⟨hs1, hs3⟩
      · injection hs3 with hs5 hs6
        subst hs6
        have HP9 := Lib.hid (show ReAt (fun _ => True) x (.agg #[.int .u8 p0, .int .u64 p1, .int .u64 p2, .int .u64 p3, .int .u64 p4, .slice pl pn pc]) (derE s[i] cur).rx from by have := hR9 _ hs5; rw [hs5] at this; exact this)
        have KN := Lib.hid (normL_any (derE s[i] cur).rx _ x HP9.out)
        rw [normX_of HDW.out hs4, ← hs2] at KN
        have HST := Lib.hid hs1
        obtain ⟨c0, c1, c2, c3, c4, c5, -⟩ := cellsR hX9
        clear hs1 hs2 hs4 hs5 hR9 hX9 HLIM KL HDW HP9 hb
        rw [show (((0 : Nat)) : Int) = 0 from rfl]
        go_wp2_with fail
        refine KN.out.mono ?_
        rintro z w4 ⟨v4, rfl, hv4, hb4⟩
        obtain ⟨q0, q1, q2, q3, q4, ql, qn, qc, rfl⟩ := cells_re hv4
        have HB4 := Lib.hid (HBX.out.trans (hb4.mono HBX.out.size))
        have XG4 := Lib.hid ((HB4.out.block gl hlw).trans HXL.out)
        have I4 := HT.out.keep _ _ _ _ _ HI.out HB4.out
        have hsp : (putW w4 gl (.int .u8 q0) (.int .u64 q1) (.int .u64 q2) (.int .u64 q3) (.int .u64 q4) (.slice ql qn qc)).heap.size = w4.heap.size := putW_size _ _ _ _ _ _ _ _
        have I5 := HT.out.other _ _ _ _ (putW w4 gl (.int .u8 q0) (.int .u64 q1) (.int .u64 q2) (.int .u64 q3) (.int .u64 q4) (.slice ql qn qc)) gl I4 (.inr rfl) hgo (by rw [hsp]; exact Nat.le_refl _) (fun b h1 _ => putW_other _ _ _ _ _ _ _ _ h1)
        have hsz4 := HB4.out.size
        have hszx := HBX.out.size
        have HSV : ReAt (fun b => B ≤ b ∧ ¬ (X b ∨ b = gl) ∧ v.ownBlock ≠ some b) (putW w4 gl (.int .u8 q0) (.int .u64 q1) (.int .u64 q2) (.int .u64 q3) (.int .u64 q4) (.slice ql qn qc)) (.agg #[.int .u8 q0, .int .u64 q1, .int .u64 q2, .int .u64 q3, .int .u64 q4, .slice ql qn qc]) nxt.rx := by
          refine hv4.go ⟨by rw [hsp]; exact Nat.le_refl _, fun b _ hn => ?_⟩
          have hn' : x.heap.size ≤ b := hn
          have hbg : b ≠ gl := by omega
          refine ⟨⟨by omega, fun hx => ?_, fun hx => ?_⟩, putW_other _ _ _ _ _ _ _ _ hbg⟩
          · have := o1 b hx; omega
          · have := (o2 b hx).2.1; omega
        have KS := Lib.hid (HT.out.step _ _ _ nxt _ (putW w4 gl (.int .u8 q0) (.int .u64 q1) (.int .u64 q2) (.int .u64 q3) (.int .u64 q4) (.slice ql qn qc)) I5 (by have := HDL.out; omega) HSV)
        have HSVh := Lib.hid HSV
        have HX5 := Lib.hid (putR XG4.out (.int .u8 q0) (.int .u64 q1) (.int .u64 q2) (.int .u64 q3) (.int .u64 q4) (.slice ql qn qc))
        have HOV := Lib.hid (fun e => (o2 gl e).2.2 (.inr rfl))
        have HL5 := Lib.hid (show gl < (putW w4 gl (.int .u8 q0) (.int .u64 q1) (.int .u64 q2) (.int .u64 q3) (.int .u64 q4) (.slice ql qn qc)).heap.size from by rw [hsp]; omega)
        have HB5 := Lib.hid (show Below B w (putW w4 gl (.int .u8 q0) (.int .u64 q1) (.int .u64 q2) (.int .u64 q3) (.int .u64 q4) (.slice ql qn qc)) from putB ((HBR.out).trans (HB4.out.mono o3)) hgb (.int .u8 q0) (.int .u64 q1) (.int .u64 q2) (.int .u64 q3) (.int .u64 q4) (.slice ql qn qc))
        obtain ⟨c0, c1, c2, c3, c4, c5, f0, f1, f2, f3, f4, f5⟩ := cellsR XG4.out
        unfold putW at KS HSVh HX5 HL5 HB5
        clear hv4 hb4 I4 I5 hsp HSV KN o1 o2 hsz4 hszx
        go_wp2_with fail
        rw [HT.out.enter]
        refine KS.out.mono ?_
        rintro z w5 ⟨rfl, ⟨v5, hI5⟩, hb5, hf5⟩
        have H : Hid (echInv B gl z0 s (fun b => X b ∨ b = gl) I w (.int .i64 ((i + 1 : Nat) : Int)) w5) := Lib.hid ⟨i + 1, done ++ [nxt], nxt, v5, q0, q1, q2, q3, q4, ql, qn, qc, hlt, rfl, hI5, by rw [HSN.out, HST.out]; rfl, by rw [HWA.out, HWD.out]; simp only [Option.bind_some, wrdE, HST.out], by rw [List.length_append, HDL.out]; rfl, (hf5 gl HL5.out hgo HOV.out).trans HX5.out, HSVh.out.go ⟨hb5.size, fun b hb h => ⟨trivial, hf5 b hb (fun e => h.2.1 (.inl (by rw [e]; exact HO4.out))) h.2.2⟩⟩, HB5.out.trans hb5⟩
        clear hI5 hb5 hf5 KS HSVh HX5 HL5 HB5 HOV HST HSN HWA HWD HDL HXL HRL HWL
        go_wp2
        exact ⟨by simpa using H.out, by simp [intOf]; omega⟩
      · injection hs3 with hs5 hs6
        subst hs6
        have HQ := Lib.hid (show Told z0 s.data.toList done 4 from .inr ⟨rfl, HDD.out hs1⟩)
        have HBF := Lib.hid (HBR.out.trans (HBX.out.mono o3))
        clear hs1 hs5 hR9 hX9 HLIM KL HDW hb o1 o2 HXL HRL HWL HWD HSN HWA HDD HDL
        rw [show (((4 : Nat)) : Int) = 4 from rfl]
        go_wp2
        go_ret
        exact ⟨_, _, _, 4, rfl, HIX.out, HBF.out, HQ.out⟩
    · have he : i = s.size := by omega
      subst he
      have hta : s.data.toList.take s.size = s.data.toList := List.take_of_length_le (by rw [Array.length_toList]; exact Nat.le_refl _)
      have HQ := Lib.hid (show Told z0 s.data.toList done 0 from .inl ⟨rfl, by rw [← HWL.out, hta]⟩)
      have q1 : ¬ (s.size : Int) < (s.size : Int) := by omega
      clear hta HWL HWD HDL HXL HRL hlt
      go_wp2
      go_ret
      exact ⟨_, _, _, 0, rfl, HI.out, HBR.out, HQ.out⟩
def Tells (r : Rx) (s : List UInt8) (done : List Ex) (n : Nat) : Prop := (mayR r = false ∧ n = 1) ∨ ∃ e : Ex, e.rx = r ∧ e.Wf ∧ e.size ≤ 2000 ∧ Told (nfE e) s done n
set_option maxRecDepth 100000 in
set_option maxHeartbeats 4000000 in
theorem ech_any {B o fn : Nat} {cs : Array Value} {I : (Nat → Prop) → Value → List Ex → World → Prop} (hT : Telling B o fn cs I) (r : Rx) (s : ByteArray) (hz : s.size ≤ 100000) {X : Nat → Prop} {v : Value} {ok : Nat → Prop} (vr : Value) (w : World) (hI : I X v [] w) (h : ReAt ok w vr r) :
    Calls Tryz.prog 32 #[vr, .string s, .func (.func fn) #[] cs] w (EchPost B I (Tells r s.data.toList) w) := by
  cases hm : mayR r with
  | true =>
    obtain ⟨e0, he, we, hs⟩ := may_ex h hm
    refine (ech_loop hT r s e0 he we hs hz vr w hI h).mono ?_
    rintro x w' ⟨X', v', done, n, h1, h2, h3, h4⟩
    exact ⟨X', v', done, n, h1, h2, h3, .inr ⟨e0, he, we, hs, h4⟩⟩
  | false =>
    obtain ⟨x0, x1, x2, x3, x4, xl, xn, xc, rfl⟩ := cells_re h
    have hb0 := bel_al w (.cells #[.int .u8 x0, .int .u64 x1, .int .u64 x2, .int .u64 x3, .int .u64 x4, .slice xl xn xc] 27)
    have K1 := Lib.hid (may_one r (w.heap.size + 1) ((w.alloc (.cells #[.int .u8 x0, .int .u64 x1, .int .u64 x2, .int .u64 x3, .int .u64 x4, .slice xl xn xc] 27)).alloc (.cells #[.int .u8 x0, .int .u64 x1, .int .u64 x2, .int .u64 x3, .int .u64 x4, .slice xl xn xc] 27)) (row_one (ok := fun _ => True) (blk_at _ _ (by simp)) trivial (((h.below hb0).below (bel_al _ _)).imp fun _ _ _ => trivial)))
    rw [hm] at K1
    have hQ : Tells r s.data.toList [] 1 := .inl ⟨hm, rfl⟩
    have HQ := Lib.hid hQ
    have HT := Lib.hid hT
    have HI := Lib.hid hI
    have HB0 := Lib.hid hb0
    have HBW := Lib.hid (hT.own _ _ _ _ hI).2.2.1
    clear hb0 hm h hQ hI hT
    go_enter Tryz.func32, Tryz.ntmps32
    go_wp2_with fail
    refine K1.out.mono ?_
    rintro x w1 ⟨rfl, hb1⟩
    have H1 := Lib.hid (HB0.out.trans ((bel_al _ _).trans (hb1.mono (by simp)) |>.mono (by simp)))
    have HI1 := Lib.hid (HT.out.keep _ _ _ _ _ HI.out H1.out)
    have HB1 := Lib.hid (H1.out.mono HBW.out)
    clear hb1 K1 HB0 H1 HI
    go_wp2
    go_ret
    exact ⟨_, _, [], 1, rfl, HI1.out, HB1.out, HQ.out⟩
open Go.RowKit
theorem tells_wrd {r : Rx} {s : List UInt8} {done : List Ex} {n : Nat} (h : Tells r s done n) : (n = 0 → ∃ y : Ex, done.getLast? = some y ∧ wrdX r s = (y.rx, 0)) ∧ (n ≠ 0 → wrdX r s = (zeroX, n)) := by
  rcases h with ⟨hm, rfl⟩ | ⟨e, rfl, we, hs, h⟩
  · exact ⟨fun h => (by cases h), fun _ => by unfold wrdX; rw [exX_no hm]⟩
  · unfold wrdX
    rw [exX_of we hs]
    rcases h with ⟨rfl, h⟩ | ⟨rfl, h⟩
    · refine ⟨fun _ => ?_, fun h => absurd rfl h⟩
      obtain ⟨h1, _, _, h4⟩ := wlk_some s h (nf_wf e we) (Nat.le_trans (nf_size e) hs) (nf_again e we)
      have hl : done.length - 1 < done.length := by omega
      rw [List.getElem?_eq_getElem hl] at h4
      refine ⟨_, by rw [List.getLast?_eq_getElem?, List.getElem?_eq_getElem hl], ?_⟩
      simp only [h4]
    · have := (wlk_none s).1 h
      exact ⟨fun h => (by cases h), fun _ => by simp only [this]⟩
open Go.RowKit
def WVx (B o : Nat) (X : Nat → Prop) (v : Value) (ps : List Ex) (w : World) : Prop := B ≤ w.heap.size ∧ B ≤ o ∧ X o ∧ v = .slice none 0 0 ∧ (∀ x, X x → x < w.heap.size) ∧ ∃ (p0 p1 p2 p3 p4 : Int) (pl : Option Addr) (pn pc : Nat), w.heap[o]? = some (.cells #[.int .u8 p0, .int .u64 p1, .int .u64 p2, .int .u64 p3, .int .u64 p4, .slice pl pn pc] 27) ∧ ∀ e : Ex, ps.getLast? = some e → ReAt (fun b => B ≤ b ∧ ¬ X b) w (.agg #[.int .u8 p0, .int .u64 p1, .int .u64 p2, .int .u64 p3, .int .u64 p4, .slice pl pn pc]) e.rx
set_option maxHeartbeats 4000000 in
set_option maxRecDepth 100000 in
theorem word1_any {B : Nat} {X : Nat → Prop} {o : Nat} {v : Value} {ps : List Ex} {e : Ex} {v0 : Value} {w : World} (hP : WVx B o X v ps w) (hre : ReAt (fun b => B ≤ b ∧ ¬ X b ∧ v.ownBlock ≠ some b) w v0 e.rx) :
    Calls Tryz.prog 34 #[v0, .pointer (some ⟨o, 0, none⟩)] w fun z w' => z = .returned (.tuple #[]) ∧ (∃ v', WVx B o X v' (ps ++ [e]) w') ∧ Below B w w' ∧ ∀ b, b < w.heap.size → b ≠ o → v.ownBlock ≠ some b → w'.heap[b]? = w.heap[b]? := by
  obtain ⟨y0, y1, y2, y3, y4, yl, yn, yc, rfl⟩ := cells_re hre
  obtain ⟨hBw, hBo, hX, rfl, h4, p0, p1, p2, p3, p4, pl, pn, pc, h1, _⟩ := hP
  have hq : (∃ v', WVx B o X v' (ps ++ [e]) ((putW w o (.int .u8 y0) (.int .u64 y1) (.int .u64 y2) (.int .u64 y3) (.int .u64 y4) (.slice yl yn yc)).alloc (.cells #[.int .u8 y0, .int .u64 y1, .int .u64 y2, .int .u64 y3, .int .u64 y4, .slice yl yn yc] 27))) ∧ Below B w ((putW w o (.int .u8 y0) (.int .u64 y1) (.int .u64 y2) (.int .u64 y3) (.int .u64 y4) (.slice yl yn yc)).alloc (.cells #[.int .u8 y0, .int .u64 y1, .int .u64 y2, .int .u64 y3, .int .u64 y4, .slice yl yn yc] 27)) ∧ ∀ b, b < w.heap.size → b ≠ o → ((putW w o (.int .u8 y0) (.int .u64 y1) (.int .u64 y2) (.int .u64 y3) (.int .u64 y4) (.slice yl yn yc)).alloc (.cells #[.int .u8 y0, .int .u64 y1, .int .u64 y2, .int .u64 y3, .int .u64 y4, .slice yl yn yc] 27)).heap[b]? = w.heap[b]? := by
    have hsz : (putW w o (.int .u8 y0) (.int .u64 y1) (.int .u64 y2) (.int .u64 y3) (.int .u64 y4) (.slice yl yn yc)).heap.size = w.heap.size := putW_size _ _ _ _ _ _ _ _
    have hb := bel_al (putW w o (.int .u8 y0) (.int .u64 y1) (.int .u64 y2) (.int .u64 y3) (.int .u64 y4) (.slice yl yn yc)) (.cells #[.int .u8 y0, .int .u64 y1, .int .u64 y2, .int .u64 y3, .int .u64 y4, .slice yl yn yc] 27)
    have hfr : ∀ b, b < w.heap.size → b ≠ o → ((putW w o (.int .u8 y0) (.int .u64 y1) (.int .u64 y2) (.int .u64 y3) (.int .u64 y4) (.slice yl yn yc)).alloc (.cells #[.int .u8 y0, .int .u64 y1, .int .u64 y2, .int .u64 y3, .int .u64 y4, .slice yl yn yc] 27)).heap[b]? = w.heap[b]? := fun b h1 h2 => (hb.block b (by omega)).trans (putW_other _ _ _ _ _ _ _ _ h2)
    have hs2 := hb.size
    refine ⟨⟨.slice none 0 0, by omega, hBo, hX, rfl, fun x hx => by have := h4 x hx; omega, y0, y1, y2, y3, y4, yl, yn, yc, (hb.block o (by have := h4 o hX; omega)).trans (putR h1 _ _ _ _ _ _), fun e' he => ?_⟩, (putB (Below.refl B w) hBo _ _ _ _ _ _).trans (hb.mono (by omega)), hfr⟩
    have he : e' = e := by simp at he; exact he.symm
    subst he
    exact hre.go ⟨by omega, fun b hb h => ⟨⟨h.1, h.2.1⟩, hfr b hb (fun e => h.2.1 (by rw [e]; exact hX))⟩⟩
  obtain ⟨c0, c1, c2, c3, c4, c5, f0, f1, f2, f3, f4, f5⟩ := cellsR h1
  have hlt : o < w.heap.size := h4 o hX
  have HQ := Lib.hid hq
  unfold putW at HQ
  clear hq hre h1 h4 hX
  go_enter Tryz.func34, Tryz.ntmps34
  go_wp2
  go_end0
  exact ⟨rfl, HQ.out.1, HQ.out.2.1, fun b h1 h2 _ => HQ.out.2.2 b h1 h2⟩
set_option maxRecDepth 100000 in
theorem tell_word (B o : Nat) : Telling B o 34 #[.pointer (some ⟨o, 0, none⟩)] (WVx B o) where
  enter := fun v w => rfl
  own := fun X v done w ⟨h1, h2, h3, h4, h5, _⟩ => ⟨h5, fun g hg => by subst h4; simp [Value.ownBlock] at hg, h1, h3, h2⟩
  keep := fun X v done w w' ⟨h1, h2, h3, h4, h5, p0, p1, p2, p3, p4, pl, pn, pc, h6, h7⟩ hb => ⟨Nat.le_trans h1 hb.size, h2, h3, h4, fun x hx => Nat.lt_of_lt_of_le (h5 x hx) hb.size, p0, p1, p2, p3, p4, pl, pn, pc, (hb.block _ (Array.getElem?_eq_some_iff.1 h6).1).trans h6, fun e he => (h7 e he).below hb⟩
  more := fun X v done w w' c ⟨h1, h2, h3, h4, h5, p0, p1, p2, p3, p4, pl, pn, pc, h6, h7⟩ hb hc hc' => ⟨Nat.le_trans h1 hb.size, h2, .inl h3, h4, fun x hx => hx.elim (fun hx => Nat.lt_of_lt_of_le (h5 x hx) hb.size) (fun e => by subst e; exact hc'), p0, p1, p2, p3, p4, pl, pn, pc, (hb.block _ (Array.getElem?_eq_some_iff.1 h6).1).trans h6, fun e he => (h7 e he).go ⟨hb.size, fun b hlt h => ⟨⟨h.1, fun hx => hx.elim h.2 (fun e => by omega)⟩, hb.block b hlt⟩⟩⟩
  other := fun X v done w w' c ⟨h1, h2, h3, h4, h5, p0, p1, p2, p3, p4, pl, pn, pc, h6, h7⟩ hc hco hs hk => ⟨Nat.le_trans h1 hs, h2, h3, h4, fun x hx => Nat.lt_of_lt_of_le (h5 x hx) hs, p0, p1, p2, p3, p4, pl, pn, pc, (hk _ (Ne.symm hco) (Array.getElem?_eq_some_iff.1 h6).1).trans h6, fun e he => (h7 e he).go ⟨hs, fun b hlt h => ⟨h, hk b (fun e => h.2 (by rw [e]; exact hc)) hlt⟩⟩⟩
  step := fun X v done e x w h _ hr => word1_any h hr
set_option maxHeartbeats 4000000 in
set_option maxRecDepth 100000 in
theorem word_ret (r : Rx) (s : ByteArray) (hz : s.size ≤ 100000) {ok ok' : Nat → Prop} (v : Value) (w : World) (h : ReAt ok w v r) :
    Calls Tryz.prog 17 #[v, .string s] w (TwPost ok' (wrdX r s.data.toList) w) := by
  obtain ⟨x0, x1, x2, x3, x4, xl, xn, xc, rfl⟩ := cells_re h
  obtain ⟨W, hW⟩ : ∃ x, x = ((w.alloc (.cells #[.int .u8 x0, .int .u64 x1, .int .u64 x2, .int .u64 x3, .int .u64 x4, .slice xl xn xc] 27)).alloc zR).alloc zR := ⟨_, rfl⟩
  have hbW : Below w.heap.size w W := by rw [hW]; exact al3 w _ _ _
  have hO : W.heap[w.heap.size + 1 + 1]? = some zR := by rw [hW]; exact blk_at _ _ (by simp)
  have hR : W.heap[w.heap.size + 1]? = some zR := by rw [hW]; exact (Below.heap_alloc _ _ _ (by simp)).trans (blk_at _ _ (by simp))
  have hlt : w.heap.size + 1 + 1 < W.heap.size := by rw [hW]; simp
  have hI : WVx (w.heap.size + 1 + 1) (w.heap.size + 1 + 1) (fun b => b = w.heap.size + 1 + 1) (.slice none 0 0) [] W := ⟨Nat.le_of_lt hlt, Nat.le_refl _, rfl, rfl, fun x hx => by rw [hx]; exact hlt, 0, 0, 0, 0, 0, none, 0, 0, hO, fun e he => by cases he⟩
  have KE := Lib.hid (ech_any (tell_word (w.heap.size + 1 + 1) (w.heap.size + 1 + 1)) r s hz _ W hI (h.below hbW))
  have HBW := Lib.hid hbW
  have HW := Lib.hid hW
  have HR := Lib.hid hR
  clear hI hO hlt hbW hW h hR
  obtain ⟨res, hres⟩ : ∃ z, z = wrdX r s.data.toList := ⟨_, rfl⟩
  rw [← hres]
  have HRES := Lib.hid hres
  clear hres
  go_enter Tryz.func17, Tryz.ntmps17
  go_wp2_with fail
  rw [← HW.out]
  refine KE.out.mono ?_
  rintro e w1 ⟨X, v, done, n, rfl, hI1, hb1, hq⟩
  obtain ⟨_, _, _, _, _, p0, p1, p2, p3, p4, pl, pn, pc, h1, h2⟩ := hI1
  obtain ⟨t1, t2⟩ := tells_wrd hq
  have HR1 := Lib.hid ((hb1.block (w.heap.size + 1) (by omega)).trans HR.out)
  have HB1 := Lib.hid (HBW.out.trans (hb1.mono (by omega)))
  obtain ⟨c0, c1, c2, c3, c4, c5, f0, f1, f2, f3, f4, f5⟩ := cellsR HR1.out
  by_cases hn : n = 0
  · subst hn
    obtain ⟨y, hy, t⟩ := t1 rfl
    rw [← HRES.out] at t
    subst t
    have HV := Lib.hid (show ReAt (okN ok' w.heap.size) w1 _ y.rx from (h2 y hy).imp fun b _ h => .inr (by omega))
    obtain ⟨b0, b1, b2, b3, b4, b5, -⟩ := cellsR h1
    clear h1 h2 hq hb1 t1 t2 KE HW HBW HRES HR hy
    rw [show ((0 : Nat) : Int) = 0 from rfl]
    go_wp2
    exact ret_tw (e := y) HR1.out HV.out HB1.out (by omega) Tryz.results17 rfl rfl rfl
  · have t := t2 hn
    rw [← HRES.out] at t
    subst t
    have hn2 : ((n : Int) == 0) = false := by simp; exact hn
    clear h1 h2 hq hb1 t1 t2 KE HW HBW HRES HR
    go_wp2
    exact ret_tw0 HR1.out HB1.out (by omega) Tryz.results17 rfl rfl rfl
open Go.RowKit
def stG (ok : Nat → Prop) (B : Nat) (rr : Rx) (v : Value) (w : World) : Prop := ∃ (g : Nat) (p0 p1 p2 p3 p4 : Int) (pl : Option Addr) (pn pc : Nat), v = .pointer (some ⟨g, 0, none⟩) ∧ B ≤ g ∧ w.heap[g]? = some (.cells #[.int .u8 p0, .int .u64 p1, .int .u64 p2, .int .u64 p3, .int .u64 p4, .slice pl pn pc] 27) ∧ ∀ e : Ex, rr = e.rx → ReAt ok w (.agg #[.int .u8 p0, .int .u64 p1, .int .u64 p2, .int .u64 p3, .int .u64 p4, .slice pl pn pc]) rr
open Go.RowKit
def ex9 : Ex := .star (.seq (.cls (rngW 97 97)) (.cls (rngW 98 98)))
theorem px_9 : PX .alt [40, 97, 98, 41, 42] (.ok ex9 []) :=
  PX.altOne (PX.rowOne (PX.round (fun _ h => by injection h with h1 h2; exact absurd h1 (by decide)) (PX.altOne (PX.rowMore (ex_atom 97 _ rfl (by decide) (by decide) (by decide)) rfl rfl (PX.rowOne (ex_atom 98 _ rfl (by decide) (by decide) (by decide)) rfl rfl)) (fun _ h => by injection h with h1 h2; exact absurd h1 (by decide)))) rfl rfl) (notAt_nil _)
theorem rd_9 : rdOf ⟨#[40, 97, 98, 41, 42]⟩ = .ok ex9 := by
  rw [rdOf_px (s := ⟨#[40, 97, 98, 41, 42]⟩) px_9]
  unfold topR
  rw [if_neg (by decide)]
  simp only [if_true]
  rw [if_pos (by decide)]
theorem has_ne9 {s : Ws} {n : Nat} (h : s.has n = true) : s ≠ Ws.nil := fun e => by rw [e, Ws.has_nil] at h; cases h
theorem wf_9 : ex9.Wf := ⟨⟨ofN_ok _, has_ne9 (n := 97) (by decide +kernel)⟩, ofN_ok _, has_ne9 (n := 98) (by decide +kernel)⟩
theorem wrd_9 : wrdE (nfE ex9) [97, 98] = some ex9 := by kernel_rfl
theorem wrdX_9 : wrdX ex9.rx [97, 98] = (ex9.rx, 0) := by
  unfold wrdX
  rw [exX_of wf_9 (by decide)]
  simp only [wrd_9]
theorem text_9 : textX ex9.rx = [40, 97, 98, 41, 42] := by
  rw [textX_yes (by rw [mayE wf_9]; decide)]
  kernel_rfl
def Awake9C : Prop := ∀ (w : World), Tab w → Calls Tryz.prog 9 #[] w fun x w' => x = .returned (.bool true) ∧ Below w.heap.size w w'
set_option maxHeartbeats 4000000 in
set_option maxRecDepth 100000 in
theorem awake9_any (hRead : ReadC) (hText : TextC) : Awake9C := by
  intro w hT
  have K1 := Lib.hid (hRead ⟨#[40, 97, 98, 41, 42]⟩ w (by decide))
  rw [rd_9] at K1
  have KW := Lib.hid fun (ok : Nat → Prop) v W (h : ReAt ok W v ex9.rx) => word_ret (ok' := fun _ => True) ex9.rx ⟨#[97, 98]⟩ (by decide) v W h
  rw [show (⟨#[97, 98]⟩ : ByteArray).data.toList = [97, 98] from rfl, wrdX_9] at KW
  have KT := Lib.hid fun (ok : Nat → Prop) v W (hb : Below w.heap.size w W) (h : ReAt ok W v ex9.rx) => hText ok ex9.rx v W (hT.go hb) (by decide) h
  rw [text_9] at KT
  clear hT
  go_enter Tryz.func9, Tryz.ntmps9
  go_wp2_with fail
  refine K1.out.mono ?_
  rintro e w1 ⟨hb1, v, rfl, hv⟩
  obtain ⟨x0, x1, x2, x3, x4, xl, xn, xc, rfl⟩ := cells_re hv
  have hal := bel_al w1 (.cells #[.int .u8 x0, .int .u64 x1, .int .u64 x2, .int .u64 x3, .int .u64 x4, .slice xl xn xc] 27)
  have HV := Lib.hid (hv.below hal)
  have HB := Lib.hid (hb1.trans (hal.mono hb1.size))
  clear hal hb1 hv K1
  go_wp2_with fail
  refine (KW.out _ _ _ HV.out).mono ?_
  rintro e w2 ⟨v2, rfl, hv2, hb2⟩
  obtain ⟨p0, p1, p2, p3, p4, pl, pn, pc, rfl⟩ := cells_re hv2
  have hal := bel_al w2 (.cells #[.int .u8 p0, .int .u64 p1, .int .u64 p2, .int .u64 p3, .int .u64 p4, .slice pl pn pc] 27)
  have HV2 := Lib.hid (hv2.below hal)
  have HB1 := Lib.hid (HB.out.trans (hb2.mono HB.out.size))
  have HB2 := Lib.hid (HB1.out.trans (hal.mono HB1.out.size))
  clear hal hb2 hv2 HV HB KW
  go_wp2_with fail
  refine (KT.out _ _ _ HB2.out HV2.out).mono ?_
  rintro e w3 ⟨rfl, hb3⟩
  have HB3 := Lib.hid (HB2.out.trans (hb3.mono HB2.out.size))
  clear hb3 HV2 HB2 HB1 KT
  go_wp2
  go_ret
  exact ⟨rfl, HB3.out⟩
open Go.RowKit
def Bx9 (w W : World) (X : Obj) : Prop := W.heap[w.heap.size]? = some X ∧ Below w.heap.size w W
theorem Bx9.go {w W W' : World} {X : Obj} (h : Bx9 w W X) (hb : Below W.heap.size W W') : Bx9 w W' X := ⟨(hb.block _ (Array.getElem?_eq_some_iff.1 h.1).1).trans h.1, h.2.trans (hb.mono h.2.size)⟩
theorem Bx9.new (w : World) (X : Obj) : Bx9 w (w.alloc X) X := ⟨blk_new w _, bel_al w X⟩
theorem ex_size9 {r : Rx} {e : Ex} (hx : exX r = some e) : r.size ≤ 2000 := by
  classical
  unfold exX at hx
  split at hx
  · rename_i h
    obtain ⟨e', h1, _, h3⟩ := h
    rw [← h1, Ex.size_rx]
    exact h3
  · cases hx
theorem wrd_small (r : Rx) (s : List UInt8) (h : (wrdX r s).2 = 0) : r.size ≤ 2000 := by
  unfold wrdX at h
  cases hx : exX r with
  | none => rw [hx] at h; cases h
  | some e => exact ex_size9 hx
theorem u8_of9 {m : Nat} (h : m < 256) : ∃ c : UInt8, m = c.toNat := ⟨UInt8.ofNat m, (Nat.mod_eq_of_lt h).symm⟩
open Go.RowKit
theorem ex_of9 {r : Rx} {e : Ex} (hx : exX r = some e) : e.rx = r ∧ e.Wf ∧ e.size ≤ 2000 := by
  classical
  unfold exX at hx
  split at hx
  · rename_i h
    injection hx with hx
    have := Classical.choose_spec h
    rw [hx] at this
    exact this
  · cases hx
open Go.RowKit
theorem fit9 {r : Rx} {e : Ex} (hx : exX r = some e) (s : ByteArray) : fitX9 r s = true ↔ Ex.Fit e s.data.toList := by
  have hF : ∀ j, (((List.replicate (s.size + 1) false).set 0 true).getD j false = true) ↔ j = 0 := fun j => by
    rw [List.getD_eq_getElem?_getD, List.getElem?_set]
    by_cases hj : 0 = j
    · subst hj; simp
    · rw [if_neg hj, List.getElem?_replicate]
      split <;> simp <;> omega
  unfold fitX9 ends0
  rw [hx]
  show (endsL e s.data.toList _).getD s.size false = true ↔ _
  have hz : s.size = s.data.toList.length := (dlen s).symm
  have ht : s.data.toList.take s.size = s.data.toList := by rw [hz]; exact List.take_length
  rw [endsL_at]
  have := fits_ends e s.data.toList s.size (by omega)
  rw [ht] at this
  rw [← this]
  exact ⟨ends_mono fun j hj => (hF j).1 hj, ends_mono fun j hj => (hF j).2 hj⟩
theorem left_word (r : Rx) (s s1 s2 : ByteArray) (n : Nat) (h1 : s1.data.toList = s.data.toList.take n) (h2 : s2.data.toList = s.data.toList.drop n) (h : (wrdX r s1.data.toList).2 = 0) : (∃ e : Ex, (wrdX r s1.data.toList).1 = e.rx ∧ e.size ≤ 2000) ∧ fitX9 (wrdX r s1.data.toList).1 s2 = fitX9 r s := by
  unfold wrdX at h ⊢
  cases hx : exX r with
  | none => rw [hx] at h; cases h
  | some e =>
    obtain ⟨_, he, hs⟩ := ex_of9 hx
    rw [hx] at h
    simp only at h ⊢
    cases hw : wrdE (nfE e) s1.data.toList with
    | none => rw [hw] at h; cases h
    | some y =>
      obtain ⟨w1, w2, _, w4⟩ := wrd_fit _ hw (nf_wf e he) (Nat.le_trans (nf_size e) hs) (nf_again e he)
      refine ⟨⟨y, rfl, w2⟩, ?_⟩
      rw [Bool.eq_iff_iff, fit9 (exX_of w1 w2), fit9 hx, w4, nf_fit, h1, h2, List.take_append_drop]
theorem left_plain (c : UInt8) (r : Rx) (s s3 : ByteArray) (h1 : s.data.toList = c :: s3.data.toList) (h : (plnX c r).2 = 0) : (∃ e : Ex, (plnX c r).1 = e.rx ∧ e.size ≤ 2000) ∧ fitX9 (plnX c r).1 s3 = fitX9 r s := by
  unfold plnX at h ⊢
  cases hx : exX r with
  | none => rw [hx] at h; cases h
  | some e =>
    obtain ⟨_, he, hs⟩ := ex_of9 hx
    rw [hx] at h
    simp only at h ⊢
    by_cases hd : (derE c e).size ≤ 2000
    · rw [if_pos hd]
      refine ⟨⟨_, rfl, hd⟩, ?_⟩
      rw [Bool.eq_iff_iff, fit9 (exX_of (der_wf c e he) hd), fit9 hx, der_fit, h1]
    · rw [if_neg hd] at h; cases h
theorem ext_take (s : ByteArray) (n : Nat) : (s.extract 0 n).data.toList = s.data.toList.take n := by
  rw [ByteArray.data_extract, Array.toList_extract, List.extract_eq_take_drop]; simp
theorem ext_drop (s : ByteArray) (n : Nat) : (s.extract n s.size).data.toList = s.data.toList.drop n := by
  rw [ByteArray.data_extract, Array.toList_extract, List.extract_eq_take_drop]
  exact List.take_of_length_le (by rw [List.length_drop, Array.length_toList]; exact Nat.le_refl _)
theorem head_drop (s : ByteArray) (h : 0 < s.size) : s.data.toList = s[0] :: s.data.toList.drop 1 := by
  have := cut_byte s 0 h
  simpa using this
theorem ext_size (s : ByteArray) (i j : Nat) : (s.extract i j).size ≤ s.size := by
  rw [ByteArray.size_extract]; omega
set_option maxHeartbeats 8000000 in
set_option maxRecDepth 100000 in
theorem derivLeft_walk (hRead : ReadC) (hText : TextC) {ok : Nat → Prop} (r : Rx) (v : Value) (s : ByteArray) (k : UInt8) (w : World) (hT : Tab w) (h : ReAt ok w v r) :
    Calls Tryz.prog 6 #[v, .string s, .int .u8 k.toNat] w fun e w' => e = .returned (.bool true) ∧ Below w.heap.size w w' := by
  obtain ⟨x0, x1, x2, x3, x4, xl, xn, xc, rfl⟩ := cells_re h
  have HR := Lib.hid h
  have G1 := Lib.hid fun W (hb : Below w.heap.size w W) => great_any r 30 _ W (h.below hb) (by decide)
  have KA := Lib.hid fun W (hb : Below w.heap.size w W) => awake9_any hRead hText W (hT.go hb)
  have BX := Lib.hid (Bx9.new w (.cells #[.int .u8 x0, .int .u64 x1, .int .u64 x2, .int .u64 x3, .int .u64 x4, .slice xl xn xc] 27))
  have HMOD := Lib.hid (Nat.mod_lt k.toNat (show 0 < s.size + 1 by omega))
  obtain ⟨n, hn⟩ : ∃ n, n = k.toNat % (s.size + 1) := ⟨_, rfl⟩
  rw [← hn] at HMOD
  have HN := Lib.hid (show (wrap64 (k.toNat : Int)).tmod ((s.size : Int) + 1) = (n : Int) from by
    rw [show wrap64 (k.toNat : Int) = (k.toNat : Int) from by have := k.toNat_lt; unfold wrap64; omega, Int.tmod_eq_emod_of_nonneg (by omega), hn]; simp)
  have K1 := Lib.hid fun (hz : (s.extract 0 n).size ≤ 100000) W (hb : Below w.heap.size w W) => word_ret (ok' := fun _ => True) r (s.extract 0 n) hz _ W (h.below hb)
  have HSZ := Lib.hid (wrd_small r (s.extract 0 n).data.toList)
  have HLW := Lib.hid (left_word r s (s.extract 0 n) (s.extract n s.size) n (ext_take s n) (ext_drop s n))
  have KF2 := Lib.hid fun (hr : r.size ≤ 1000000) (hz : s.size ≤ 100000) W (hb : Below w.heap.size w W) => refFits endsC r s _ W hr hz (h.below hb)
  have KF1 := Lib.hid fun (hz : (s.extract n s.size).size ≤ 100000) (r1 : Rx) (hr : r1.size ≤ 1000000) (v : Value) W (h1 : ReAt (fun _ => True) W v r1) => refFits endsC r1 (s.extract n s.size) v W hr hz h1
  have KF3 := Lib.hid fun (hz : (s.extract 1 s.size).size ≤ 100000) (r1 : Rx) (hr : r1.size ≤ 1000000) (v : Value) W (h1 : ReAt (fun _ => True) W v r1) => refFits endsC r1 (s.extract 1 s.size) v W hr hz h1
  have KP := Lib.hid fun (hz0 : 0 < s.size) W (hb : Below w.heap.size w W) => plain_any s[0] r _ W (h.below hb)
  have HLP := Lib.hid fun (hz0 : 0 < s.size) => left_plain s[0] r s (s.extract 1 s.size) (by rw [ext_drop]; exact head_drop s hz0)
  obtain ⟨⟨r1, n1⟩, hp1⟩ : ∃ p, p = wrdX r (s.extract 0 n).data.toList := ⟨_, rfl⟩
  rw [← hp1] at K1 HLW HSZ
  obtain ⟨q, hq⟩ : ∃ q, q = fitX9 r s := ⟨_, rfl⟩
  rw [← hq] at KF2 HLW HLP
  clear hn hp1 hq
  clear hRead hText hT h
  go_enter Tryz.func6, Tryz.ntmps6
  go_wp2_with fail
  refine (G1.out _ BX.out.2).mono ?_
  rintro e w' ⟨⟨p, rfl, hp⟩, hb⟩
  replace BX := Lib.hid (BX.out.go hb)
  clear hb hp
  cases p with
  | true =>
    go_wp2_with fail
    refine (KA.out _ BX.out.2).mono ?_
    rintro e w' ⟨rfl, hb⟩
    have HE := Lib.hid (BX.out.2.trans (hb.mono BX.out.2.size))
    clear hb
    go_wp2
    go_ret
    exact ⟨rfl, HE.out⟩
  | false =>
    clear G1
    by_cases hs6 : s.size ≤ 8
    · have q1 : ¬ (8 : Int) < (s.size : Int) := by omega
      obtain ⟨c0, c1, c2, c3, c4, c5, -⟩ := cellsR BX.out.1
      have lx := (Array.getElem?_eq_some_iff.1 BX.out.1).1
      go_wp2_with fail
      rw [HN.out]
      have hnl : (s.extract 0 n).size ≤ 100000 := by have := ext_size s 0 n; omega
      have hnl2 : (s.extract n s.size).size ≤ 100000 := by have := ext_size s n s.size; omega
      have hnl3 : (s.extract 1 s.size).size ≤ 100000 := by have := ext_size s 1 s.size; omega
      have hnn : n < s.size + 1 := HMOD.out
      clear c0 c1 c2 c3 c4 c5 lx
      have WB := Lib.hid fun x (hx : Below w'.heap.size w' x) => (BX.out.go hx).2
      have CX := Lib.hid fun x (hx : Below w'.heap.size w' x) => cellsR (BX.out.go hx).1
      refine wp_region_orderS 9 (fun j => ([0, 0, 0, 0, 0, 0, 0, 1, 0, 2, 1] : List Nat).getD j 0) (fun j => ([SP.eq (.agg #[.int .u8 x0, .int .u64 x1, .int .u64 x2, .int .u64 x3, .int .u64 x4, .slice xl xn xc]), SP.eq (.string s), SP.eq (.int .i64 n), SP.eq (.string (s.extract 0 n)), SP.tw (fun _ => True) (r1, n1), SP.tw (fun _ => True) (r1, n1), SP.rw9 (fun _ => True) r1, SP.eq (.int .i64 n1), SP.vz w'.heap.size, SP.free, SP.eq (.int .i64 n1)] : List SP).getD j SP.free) (fun j x => match j with | 5 => ∃ y, x = .tuple #[y, .int .i64 n1] | 7 => x = .int .i64 n1 | 10 => x = .int .i64 n1 | _ => True) (OmS 8 (stG (fun _ => True) w'.heap.size r1)) ?_ (omS_kept _ _ (by kernel_rfl)) (by kernel_rfl) (by kernel_rfl) ⟨?_, ?_, ?_, ?_, ?_, ?_, ?_, ?_, ?_, ?_, ?_, trivial⟩ ?_
      · intro j x w h
        match j, h with
        | 0, _ => trivial
        | 1, _ => trivial
        | 2, _ => trivial
        | 3, _ => trivial
        | 4, _ => trivial
        | 5, h => obtain ⟨p0, p1, p2, p3, p4, pl, pn, pc, rfl, _⟩ := h; exact ⟨_, rfl⟩
        | 6, _ => trivial
        | 7, h => exact h
        | 8, _ => trivial
        | 9, _ => trivial
        | 10, h => exact h
        | n + 11, _ => trivial
      · intro a x K out get hb hK
        rw [if_pos (wanted_none rfl)]
        have o3 : a.tmps[3]? = some (.pointer (some ⟨w.heap.size, 0, none⟩)) := out 3 (by kernel_rfl)
        clear out get
        obtain ⟨c0, c1, c2, c3, c4, c5, -⟩ := CX.out x hb
        go_simp
        exact hK _ _ rfl (Below.refl _ _)
      · intro a x K out get hb hK
        rw [if_pos (wanted_none rfl)]
        have o1 : a.tmps[1]? = some (.string s) := out 1 (by kernel_rfl)
        clear out get
        go_simp
        exact hK _ _ rfl (Below.refl _ _)
      · intro a x K out get hb hK
        rw [if_pos (wanted_none rfl)]
        have o7 : a.tmps[7]? = some (.int .i64 n) := out 7 (by kernel_rfl)
        clear out get
        go_simp
        exact hK _ _ rfl (Below.refl _ _)
      · intro a x K out get hb hK
        rw [if_pos (wanted_none rfl)]
        obtain ⟨y28, hy28, rfl⟩ := get 1 _ _ rfl rfl (by kernel_rfl)
        obtain ⟨y29, hy29, rfl⟩ := get 2 _ _ rfl rfl (by kernel_rfl)
        clear out get
        have hn0 : (0 : Int) ≤ (n : Int) := by omega
        have hn1 : (n : Int) ≤ (s.size : Int) := by omega
        go_simp
        exact hK _ _ rfl (Below.refl _ _)
      · intro a x K out get hb hK
        rw [if_pos (wanted_none rfl)]
        obtain ⟨y27, hy27, rfl⟩ := get 0 _ _ rfl rfl (by kernel_rfl)
        obtain ⟨y30, hy30, rfl⟩ := get 3 _ _ rfl rfl (by kernel_rfl)
        clear out get
        go_simp
        refine (K1.out hnl x (WB.out x hb)).mono ?_
        rintro e w2 ⟨v2, rfl, hv2, hb2⟩
        exact hK _ _ (TwV.of hv2 fun _ _ _ => trivial) hb2
      · intro a x K out get hb hK
        rw [if_pos (wanted_none rfl)]
        obtain ⟨y31, hy31, ⟨p0, p1, p2, p3, p4, pl, pn, pc, rfl, hr31⟩⟩ := get 4 _ _ rfl rfl (by kernel_rfl)
        clear out get
        go_simp
        exact hK _ _ ⟨p0, p1, p2, p3, p4, pl, pn, pc, rfl, hr31⟩ (Below.refl _ _)
      · intro a x K out get hb hK
        rw [if_pos (wanted_none rfl)]
        obtain ⟨y26, hy26, ⟨p0, p1, p2, p3, p4, pl, pn, pc, rfl, hr26⟩⟩ := get 5 _ _ rfl rfl (by kernel_rfl)
        clear out get
        go_simp
        exact hK _ _ ⟨p0, p1, p2, p3, p4, pl, pn, pc, rfl, hr26⟩ (Below.refl _ _)
      · intro a x K out get hK
        rw [if_pos (wanted_none rfl)]
        obtain ⟨y26, hy26, ⟨zz, rfl⟩⟩ := get 5 _ _ rfl rfl (by kernel_rfl)
        clear out get
        go_simp
        exact hK _ rfl (fun _ => rfl)
      · intro a x K out get hb hK
        rw [if_pos (wanted_none rfl)]
        clear out get
        go_simp
        exact hK _ _ ⟨_, rfl, hb.size, by simp, blk_new _ _⟩ (bel_al _ _)
      · intro a x K out get hb hK
        rw [if_pos (wanted_none rfl)]
        obtain ⟨yv, hyv, ⟨g9, rfl, hg1, hg2, hz⟩⟩ := get 8 _ _ rfl rfl (by kernel_rfl)
        obtain ⟨ye, hye, ⟨p0, p1, p2, p3, p4, pl, pn, pc, rfl, hre⟩⟩ := get 6 _ _ rfl rfl (by kernel_rfl)
        obtain ⟨c0, c1, c2, c3, c4, c5, f0, f1, f2, f3, f4, f5⟩ := cellsR hz
        have HG := Lib.hid (show g9 < x.heap.size from hg2)
        have HR9 := Lib.hid hre
        have HZ := Lib.hid hz
        clear out get hg2 hre hz
        go_simp
        exact hK _ ⟨_, hyv, g9, p0, p1, p2, p3, p4, pl, pn, pc, rfl, hg1, putR HZ.out _ _ _ _ _ _, fun e he => by subst he; exact (put_ex HZ.out HR9.out).2⟩ (putB hb hg1 _ _ _ _ _ _)
      · intro a x K out get hK
        rw [if_pos (wanted_none rfl)]
        obtain ⟨y33, hy33, rfl⟩ := get 7 _ _ rfl rfl (by kernel_rfl)
        clear out get
        go_simp
        exact hK _ rfl (fun _ => rfl)
      refine ao_finS (isD := fun s => (decide (26 ≤ s) && decide (s ≤ 33)) || decide (s = 8) || decide (s = 9)) (by decide) (by kernel_rfl) ?_
      intro f x hv hom hb
      have ea : f 9 = .int .i64 n1 := hv 10 _ _ rfl rfl
      obtain ⟨v9, h9, g9, p0, p1, p2, p3, p4, pl, pn, pc, rfl, hg9, hX9, hR9⟩ := hom
      have ev : f 8 = .pointer (some ⟨g9, 0, none⟩) := by simpa [frm] using h9
      clear hv h9
      generalize hF : (Act.mk (List.toArray (frm f _ 0 _)) _) = fr
      simp [frm] at hF
      rw [ea, ev] at hF
      subst hF
      generalize f 26 = u26 at *
      generalize f 27 = u27 at *
      generalize f 28 = u28 at *
      generalize f 29 = u29 at *
      generalize f 30 = u30 at *
      generalize f 31 = u31 at *
      generalize f 32 = u32 at *
      generalize f 33 = u33 at *
      clear ea ev f
      replace BX := Lib.hid (BX.out.go hb)
      clear hb CX WB K1
      by_cases hn1 : n1 = 0
      · subst hn1
        have hrs : r.size ≤ 2000 := HSZ.out rfl
        replace KF2 := Lib.hid (KF2.out (by omega) (by omega))
        obtain ⟨⟨e1, he1, hz1⟩, hfit⟩ := HLW.out rfl
        have hfit2 : fitX9 r1 (s.extract n s.size) = q := hfit
        have HR1 := Lib.hid (hR9 e1 he1)
        have HX1 := Lib.hid hX9
        have hrs1 : r1.size ≤ 1000000 := by
          have : r1 = e1.rx := he1
          rw [this, Ex.size_rx]; omega
        have KF1' := Lib.hid fun W (h1 : ReAt (fun _ => True) W _ r1) => KF1.out hnl2 r1 hrs1 (.agg #[.int .u8 p0, .int .u64 p1, .int .u64 p2, .int .u64 p3, .int .u64 p4, .slice pl pn pc]) W h1
        rw [hfit2] at KF1'
        obtain ⟨W1, hW1⟩ : ∃ W, W = x := ⟨_, rfl⟩
        rw [← hW1] at BX HR1 HX1
        rw [← hW1, show ((0 : Nat) : Int) = 0 from rfl]
        clear hW1 hfit hfit2 hrs1 hz1 he1 hR9 hX9 HLW KF1
        have WB := Lib.hid fun x (hx : Below W1.heap.size W1 x) => (BX.out.go hx).2
        have CX := Lib.hid fun x (hx : Below W1.heap.size W1 x) => cellsR (BX.out.go hx).1
        have CP := Lib.hid fun x (hx : Below W1.heap.size W1 x) => cellsR ((hx.block g9 (Array.getElem?_eq_some_iff.1 HX1.out).1).trans HX1.out)
        have KF1 := Lib.hid fun x (hx : Below W1.heap.size W1 x) => KF1'.out x (HR1.out.below hx)
        clear KF1' 
        go_wp2_with fail
        refine wp_region_order (fun j => ([SP.eq (.agg #[.int .u8 p0, .int .u64 p1, .int .u64 p2, .int .u64 p3, .int .u64 p4, .slice pl pn pc]), SP.eq (.string s), SP.eq (.int .i64 n), SP.eq (.string (s.extract n s.size)), SP.eq (.bool q), SP.eq (.agg #[.int .u8 x0, .int .u64 x1, .int .u64 x2, .int .u64 x3, .int .u64 x4, .slice xl xn xc]), SP.eq (.string s), SP.eq (.bool q), SP.eq (.bool false)] : List SP).getD j SP.free) (by kernel_rfl) (by kernel_rfl) ⟨?_, ?_, ?_, ?_, ?_, ?_, ?_, ?_, ?_, trivial⟩ ?_
        · intro a x K out get hb hK
          rw [if_pos (wanted_none rfl)]
          have o8 : a.tmps[8]? = some (.pointer (some ⟨g9, 0, none⟩)) := out 8 (by kernel_rfl)
          clear out get
          obtain ⟨c0, c1, c2, c3, c4, c5, -⟩ := CP.out x hb
          go_simp
          exact hK _ _ rfl (Below.refl _ _)
        · intro a x K out get hb hK
          rw [if_pos (wanted_none rfl)]
          have o1 : a.tmps[1]? = some (.string s) := out 1 (by kernel_rfl)
          clear out get
          go_simp
          exact hK _ _ rfl (Below.refl _ _)
        · intro a x K out get hb hK
          rw [if_pos (wanted_none rfl)]
          have o7 : a.tmps[7]? = some (.int .i64 n) := out 7 (by kernel_rfl)
          clear out get
          go_simp
          exact hK _ _ rfl (Below.refl _ _)
        · intro a x K out get hb hK
          rw [if_pos (wanted_none rfl)]
          obtain ⟨y38, hy38, rfl⟩ := get 1 _ _ rfl rfl (by kernel_rfl)
          obtain ⟨y39, hy39, rfl⟩ := get 2 _ _ rfl rfl (by kernel_rfl)
          clear out get
          have hn0 : (0 : Int) ≤ (n : Int) := by omega
          have hn1 : (n : Int) ≤ (s.size : Int) := by omega
          go_simp
          exact hK _ _ rfl (Below.refl _ _)
        · intro a x K out get hb hK
          rw [if_pos (wanted_none rfl)]
          obtain ⟨y37, hy37, rfl⟩ := get 0 _ _ rfl rfl (by kernel_rfl)
          obtain ⟨y40, hy40, rfl⟩ := get 3 _ _ rfl rfl (by kernel_rfl)
          clear out get
          go_simp
          refine (KF1.out x hb).mono ?_
          rintro e w2 ⟨rfl, hb2⟩
          exact hK _ _ rfl hb2
        · intro a x K out get hb hK
          rw [if_pos (wanted_none rfl)]
          have o3 : a.tmps[3]? = some (.pointer (some ⟨w.heap.size, 0, none⟩)) := out 3 (by kernel_rfl)
          clear out get
          obtain ⟨c0, c1, c2, c3, c4, c5, -⟩ := CX.out x hb
          go_simp
          exact hK _ _ rfl (Below.refl _ _)
        · intro a x K out get hb hK
          rw [if_pos (wanted_none rfl)]
          have o1 : a.tmps[1]? = some (.string s) := out 1 (by kernel_rfl)
          clear out get
          go_simp
          exact hK _ _ rfl (Below.refl _ _)
        · intro a x K out get hb hK
          rw [if_pos (wanted_none rfl)]
          obtain ⟨y42, hy42, rfl⟩ := get 5 _ _ rfl rfl (by kernel_rfl)
          obtain ⟨y43, hy43, rfl⟩ := get 6 _ _ rfl rfl (by kernel_rfl)
          clear out get
          go_simp
          refine (KF2.out x (WB.out x hb)).mono ?_
          rintro e w2 ⟨rfl, hb2⟩
          exact hK _ _ rfl hb2
        · intro a x K out get hb hK
          rw [if_pos (wanted_none rfl)]
          obtain ⟨y41, hy41, rfl⟩ := get 4 _ _ rfl rfl (by kernel_rfl)
          obtain ⟨y44, hy44, rfl⟩ := get 7 _ _ rfl rfl (by kernel_rfl)
          clear out get
          go_simp
          exact hK _ _ rfl (Below.refl _ _)
        refine ao_fin (isD := fun s => decide (37 ≤ s) && decide (s ≤ 45)) (by kernel_rfl) ?_
        intro f x hv hb
        have h45 : f 45 = .bool false := hv 8 _ _ rfl rfl
        replace BX := Lib.hid (BX.out.go hb)
        clear hv hb
        generalize hF : (Act.mk (List.toArray (frm f _ 0 _)) _) = fr
        simp [frm] at hF
        rw [h45] at hF
        subst hF
        generalize f 37 = u37 at *
        generalize f 38 = u38 at *
        generalize f 39 = u39 at *
        generalize f 40 = u40 at *
        generalize f 41 = u41 at *
        generalize f 42 = u42 at *
        generalize f 43 = u43 at *
        generalize f 44 = u44 at *
        clear h45 f CP KF1 HR1 HX1 CX WB
        obtain ⟨W2, hW2⟩ : ∃ W, W = x := ⟨_, rfl⟩
        rw [← hW2] at BX
        rw [← hW2]
        clear hW2
        by_cases hz0 : 0 < s.size
        · have hz1 : ((s.size : Int) == 0) = false := beq_eq_false_iff_ne.2 (by omega)
          replace KP := Lib.hid (KP.out hz0)
          replace HLP := Lib.hid (HLP.out hz0)
          obtain ⟨⟨r2, n2⟩, hp2⟩ : ∃ p, p = plnX s[0] r := ⟨_, rfl⟩
          rw [← hp2] at KP HLP
          clear hp2
          have WB := Lib.hid fun x (hx : Below W2.heap.size W2 x) => (BX.out.go hx).2
          have CX := Lib.hid fun x (hx : Below W2.heap.size W2 x) => cellsR (BX.out.go hx).1
          go_wp2_with fail
          refine wp_region_orderS 8 (fun j => ([0, 0, 0, 0, 0, 0, 1, 0, 2, 1] : List Nat).getD j 0) (fun j => ([SP.eq (.agg #[.int .u8 x0, .int .u64 x1, .int .u64 x2, .int .u64 x3, .int .u64 x4, .slice xl xn xc]), SP.eq (.string s), SP.eq (.int .u8 (s[0]'hz0).toNat), SP.tw (fun _ => True) (r2, n2), SP.tw (fun _ => True) (r2, n2), SP.rw9 (fun _ => True) r2, SP.eq (.int .i64 n2), SP.vz W2.heap.size, SP.free, SP.eq (.int .i64 n2)] : List SP).getD j SP.free) (fun j x => match j with | 4 => ∃ y, x = .tuple #[y, .int .i64 n2] | 6 => x = .int .i64 n2 | 9 => x = .int .i64 n2 | _ => True) (OmS 10 (stG (fun _ => True) W2.heap.size r2)) ?_ (omS_kept _ _ (by kernel_rfl)) (by kernel_rfl) (by kernel_rfl) ⟨?_, ?_, ?_, ?_, ?_, ?_, ?_, ?_, ?_, ?_, trivial⟩ ?_
          · intro j x w h
            match j, h with
            | 0, _ => trivial
            | 1, _ => trivial
            | 2, _ => trivial
            | 3, _ => trivial
            | 4, h => obtain ⟨p0, p1, p2, p3, p4, pl, pn, pc, rfl, _⟩ := h; exact ⟨_, rfl⟩
            | 5, _ => trivial
            | 6, h => exact h
            | 7, _ => trivial
            | 8, _ => trivial
            | 9, h => exact h
            | n + 10, _ => trivial
          · intro a x K out get hb hK
            rw [if_pos (wanted_none rfl)]
            have o3 : a.tmps[3]? = some (.pointer (some ⟨w.heap.size, 0, none⟩)) := out 3 (by kernel_rfl)
            clear out get
            obtain ⟨c0, c1, c2, c3, c4, c5, -⟩ := CX.out x hb
            go_simp
            exact hK _ _ rfl (Below.refl _ _)
          · intro a x K out get hb hK
            rw [if_pos (wanted_none rfl)]
            have o1 : a.tmps[1]? = some (.string s) := out 1 (by kernel_rfl)
            clear out get
            go_simp
            exact hK _ _ rfl (Below.refl _ _)
          · intro a x K out get hb hK
            rw [if_pos (wanted_none rfl)]
            obtain ⟨y52, hy52, rfl⟩ := get 1 _ _ rfl rfl (by kernel_rfl)
            clear out get
            have hix : (0 : Int) < (s.size : Int) := by omega
            go_simp
            exact hK _ _ rfl (Below.refl _ _)
          · intro a x K out get hb hK
            rw [if_pos (wanted_none rfl)]
            obtain ⟨y51, hy51, rfl⟩ := get 0 _ _ rfl rfl (by kernel_rfl)
            obtain ⟨y53, hy53, rfl⟩ := get 2 _ _ rfl rfl (by kernel_rfl)
            clear out get
            go_simp
            refine (KP.out x (WB.out x hb)).mono ?_
            rintro e w2 ⟨v2, rfl, hv2, hb2⟩
            exact hK _ _ (TwV.of hv2 fun _ _ _ => trivial) hb2
          · intro a x K out get hb hK
            rw [if_pos (wanted_none rfl)]
            obtain ⟨y54, hy54, ⟨p0, p1, p2, p3, p4, pl, pn, pc, rfl, hr54⟩⟩ := get 3 _ _ rfl rfl (by kernel_rfl)
            clear out get
            go_simp
            exact hK _ _ ⟨p0, p1, p2, p3, p4, pl, pn, pc, rfl, hr54⟩ (Below.refl _ _)
          · intro a x K out get hb hK
            rw [if_pos (wanted_none rfl)]
            obtain ⟨y50, hy50, ⟨p0, p1, p2, p3, p4, pl, pn, pc, rfl, hr50⟩⟩ := get 4 _ _ rfl rfl (by kernel_rfl)
            clear out get
            go_simp
            exact hK _ _ ⟨p0, p1, p2, p3, p4, pl, pn, pc, rfl, hr50⟩ (Below.refl _ _)
          · intro a x K out get hK
            rw [if_pos (wanted_none rfl)]
            obtain ⟨y50, hy50, ⟨zz, rfl⟩⟩ := get 4 _ _ rfl rfl (by kernel_rfl)
            clear out get
            go_simp
            exact hK _ rfl (fun _ => rfl)
          · intro a x K out get hb hK
            rw [if_pos (wanted_none rfl)]
            clear out get
            go_simp
            exact hK _ _ ⟨_, rfl, hb.size, by simp, blk_new _ _⟩ (bel_al _ _)
          · intro a x K out get hb hK
            rw [if_pos (wanted_none rfl)]
            obtain ⟨yv, hyv, ⟨g9, rfl, hg1, hg2, hz⟩⟩ := get 7 _ _ rfl rfl (by kernel_rfl)
            obtain ⟨ye, hye, ⟨p0, p1, p2, p3, p4, pl, pn, pc, rfl, hre⟩⟩ := get 5 _ _ rfl rfl (by kernel_rfl)
            obtain ⟨c0, c1, c2, c3, c4, c5, f0, f1, f2, f3, f4, f5⟩ := cellsR hz
            have HG := Lib.hid (show g9 < x.heap.size from hg2)
            have HR9 := Lib.hid hre
            have HZ := Lib.hid hz
            clear out get hg2 hre hz
            go_simp
            exact hK _ ⟨_, hyv, g9, p0, p1, p2, p3, p4, pl, pn, pc, rfl, hg1, putR HZ.out _ _ _ _ _ _, fun e he => by subst he; exact (put_ex HZ.out HR9.out).2⟩ (putB hb hg1 _ _ _ _ _ _)
          · intro a x K out get hK
            rw [if_pos (wanted_none rfl)]
            obtain ⟨y56, hy56, rfl⟩ := get 6 _ _ rfl rfl (by kernel_rfl)
            clear out get
            go_simp
            exact hK _ rfl (fun _ => rfl)
          refine ao_finS (isD := fun s => (decide (50 ≤ s) && decide (s ≤ 56)) || decide (s = 10) || decide (s = 11)) (by decide) (by kernel_rfl) ?_
          intro f x hv hom hb
          have ea : f 11 = .int .i64 n2 := hv 9 _ _ rfl rfl
          obtain ⟨v9, h9, g9, p0, p1, p2, p3, p4, pl, pn, pc, rfl, hg9, hX9, hR9⟩ := hom
          have ev : f 10 = .pointer (some ⟨g9, 0, none⟩) := by simpa [frm] using h9
          clear hv h9
          generalize hF : (Act.mk (List.toArray (frm f _ 0 _)) _) = fr
          simp [frm] at hF
          rw [ea, ev] at hF
          subst hF
          generalize f 50 = u50 at *
          generalize f 51 = u51 at *
          generalize f 52 = u52 at *
          generalize f 53 = u53 at *
          generalize f 54 = u54 at *
          generalize f 55 = u55 at *
          generalize f 56 = u56 at *
          clear ea ev f
          replace BX := Lib.hid (BX.out.go hb)
          obtain ⟨W3, hW3⟩ : ∃ W, W = x := ⟨_, rfl⟩
          rw [← hW3] at BX hX9 hR9
          rw [← hW3]
          clear hW3 hb CX WB KP
          by_cases hn2 : n2 = 0
          · subst hn2
            obtain ⟨⟨e1, he1, hz3⟩, hfit⟩ := HLP.out rfl
            have hfit2 : fitX9 r2 (s.extract 1 s.size) = q := hfit
            have HR1 := Lib.hid (hR9 e1 he1)
            have HX1 := Lib.hid hX9
            have hrs1 : r2.size ≤ 1000000 := by
              have : r2 = e1.rx := he1
              rw [this, Ex.size_rx]; omega
            have KF3' := Lib.hid fun W (h1 : ReAt (fun _ => True) W _ r2) => KF3.out hnl3 r2 hrs1 (.agg #[.int .u8 p0, .int .u64 p1, .int .u64 p2, .int .u64 p3, .int .u64 p4, .slice pl pn pc]) W h1
            rw [hfit2] at KF3'
            rw [show ((0 : Nat) : Int) = 0 from rfl]
            have HNE := Lib.hid True.intro
            clear hfit hfit2 hrs1 hz3 he1 hR9 hX9 HLP KF3
            have WB := Lib.hid fun x (hx : Below W3.heap.size W3 x) => (BX.out.go hx).2
            have CX := Lib.hid fun x (hx : Below W3.heap.size W3 x) => cellsR (BX.out.go hx).1
            have CP := Lib.hid fun x (hx : Below W3.heap.size W3 x) => cellsR ((hx.block g9 (Array.getElem?_eq_some_iff.1 HX1.out).1).trans HX1.out)
            have KF3 := Lib.hid fun x (hx : Below W3.heap.size W3 x) => KF3'.out x (HR1.out.below hx)
            clear KF3' 
            go_wp2_with fail
            refine wp_region_order (fun j => ([SP.eq (.int .i64 0), SP.eq (.bool false), SP.eq (.bool false), SP.eq (.agg #[.int .u8 p0, .int .u64 p1, .int .u64 p2, .int .u64 p3, .int .u64 p4, .slice pl pn pc]), SP.eq (.string s), SP.eq (.string (s.extract 1 s.size)), SP.eq (.bool q), SP.eq (.agg #[.int .u8 x0, .int .u64 x1, .int .u64 x2, .int .u64 x3, .int .u64 x4, .slice xl xn xc]), SP.eq (.string s), SP.eq (.bool q), SP.eq (.bool true), SP.eq (.bool true), SP.eq (.bool true), SP.eq (.bool true), SP.eq (.bool true), SP.eq (.bool true)] : List SP).getD j SP.free) (by kernel_rfl) (by kernel_rfl) ⟨?_, ?_, ?_, ?_, ?_, ?_, ?_, ?_, ?_, ?_, ?_, ?_, ?_, ?_, ?_, ?_, trivial⟩ ?_
            · intro a x K out get hb hK
              rw [if_pos (wanted_none rfl)]
              have o11 : a.tmps[11]? = some (.int .i64 0) := out 11 (by kernel_rfl)
              clear out get
              go_simp
              exact hK _ _ rfl (Below.refl _ _)
            · intro a x K out get hb hK
              rw [if_pos (wanted_none rfl)]
              obtain ⟨y57, hy57, rfl⟩ := get 0 _ _ rfl rfl (by kernel_rfl)
              clear out get
              have hne := HNE.out
              go_simp
              exact hK _ _ rfl (Below.refl _ _)
            · intro a x K out get hb hK
              rw [if_pos (wanted_none rfl)]
              obtain ⟨y58, hy58, rfl⟩ := get 1 _ _ rfl rfl (by kernel_rfl)
              clear out get
              go_simp
              exact hK _ _ rfl (Below.refl _ _)
            · intro a x K out get hb hK
              obtain ⟨yg, hyg, rfl⟩ := get 2 _ _ rfl rfl (by kernel_rfl)
              rw [if_pos (by rw [wanted_bool rfl rfl rfl hyg]; rfl)]
              clear hyg
              have o10 : a.tmps[10]? = some (.pointer (some ⟨g9, 0, none⟩)) := out 10 (by kernel_rfl)
              clear out get
              obtain ⟨c0, c1, c2, c3, c4, c5, -⟩ := CP.out x hb
              go_simp
              exact hK _ _ rfl (Below.refl _ _)
            · intro a x K out get hb hK
              obtain ⟨yg, hyg, rfl⟩ := get 2 _ _ rfl rfl (by kernel_rfl)
              rw [if_pos (by rw [wanted_bool rfl rfl rfl hyg]; rfl)]
              clear hyg
              have o1 : a.tmps[1]? = some (.string s) := out 1 (by kernel_rfl)
              clear out get
              go_simp
              exact hK _ _ rfl (Below.refl _ _)
            · intro a x K out get hb hK
              obtain ⟨yg, hyg, rfl⟩ := get 2 _ _ rfl rfl (by kernel_rfl)
              rw [if_pos (by rw [wanted_bool rfl rfl rfl hyg]; rfl)]
              clear hyg
              obtain ⟨y61, hy61, rfl⟩ := get 4 _ _ rfl rfl (by kernel_rfl)
              clear out get
              have hb1 : (1 : Int) ≤ (s.size : Int) := by omega
              have hb2 : (0 : Int) ≤ (1 : Int) := by omega
              go_simp
              exact hK _ _ rfl (Below.refl _ _)
            · intro a x K out get hb hK
              obtain ⟨yg, hyg, rfl⟩ := get 2 _ _ rfl rfl (by kernel_rfl)
              rw [if_pos (by rw [wanted_bool rfl rfl rfl hyg]; rfl)]
              clear hyg
              obtain ⟨y60, hy60, rfl⟩ := get 3 _ _ rfl rfl (by kernel_rfl)
              obtain ⟨y62, hy62, rfl⟩ := get 5 _ _ rfl rfl (by kernel_rfl)
              clear out get
              go_simp
              refine (KF3.out x hb).mono ?_
              rintro e w2 ⟨rfl, hb2⟩
              exact hK _ _ rfl hb2
            · intro a x K out get hb hK
              obtain ⟨yg, hyg, rfl⟩ := get 2 _ _ rfl rfl (by kernel_rfl)
              rw [if_pos (by rw [wanted_bool rfl rfl rfl hyg]; rfl)]
              clear hyg
              have o3 : a.tmps[3]? = some (.pointer (some ⟨w.heap.size, 0, none⟩)) := out 3 (by kernel_rfl)
              clear out get
              obtain ⟨c0, c1, c2, c3, c4, c5, -⟩ := CX.out x hb
              go_simp
              exact hK _ _ rfl (Below.refl _ _)
            · intro a x K out get hb hK
              obtain ⟨yg, hyg, rfl⟩ := get 2 _ _ rfl rfl (by kernel_rfl)
              rw [if_pos (by rw [wanted_bool rfl rfl rfl hyg]; rfl)]
              clear hyg
              have o1 : a.tmps[1]? = some (.string s) := out 1 (by kernel_rfl)
              clear out get
              go_simp
              exact hK _ _ rfl (Below.refl _ _)
            · intro a x K out get hb hK
              obtain ⟨yg, hyg, rfl⟩ := get 2 _ _ rfl rfl (by kernel_rfl)
              rw [if_pos (by rw [wanted_bool rfl rfl rfl hyg]; rfl)]
              clear hyg
              obtain ⟨y64, hy64, rfl⟩ := get 7 _ _ rfl rfl (by kernel_rfl)
              obtain ⟨y65, hy65, rfl⟩ := get 8 _ _ rfl rfl (by kernel_rfl)
              clear out get
              go_simp
              refine (KF2.out x (WB.out x hb)).mono ?_
              rintro e w2 ⟨rfl, hb2⟩
              exact hK _ _ rfl hb2
            · intro a x K out get hb hK
              obtain ⟨yg, hyg, rfl⟩ := get 2 _ _ rfl rfl (by kernel_rfl)
              rw [if_pos (by rw [wanted_bool rfl rfl rfl hyg]; rfl)]
              clear hyg
              obtain ⟨y63, hy63, rfl⟩ := get 6 _ _ rfl rfl (by kernel_rfl)
              obtain ⟨y66, hy66, rfl⟩ := get 9 _ _ rfl rfl (by kernel_rfl)
              clear out get
              go_simp
              exact hK _ _ rfl (Below.refl _ _)
            · intro a x K out get hb hK
              rw [if_pos (wanted_none rfl)]
              obtain ⟨y59, hy59, rfl⟩ := get 2 _ _ rfl rfl (by kernel_rfl)
              obtain ⟨y67, hy67, rfl⟩ := get 10 _ _ rfl rfl (by kernel_rfl)
              clear out get
              go_simp
              exact hK _ _ rfl (Below.refl _ _)
            · intro a x K out get hb hK
              rw [if_pos (wanted_none rfl)]
              obtain ⟨y68, hy68, rfl⟩ := get 11 _ _ rfl rfl (by kernel_rfl)
              clear out get
              go_simp
              exact hK _ _ rfl (Below.refl _ _)
            · intro a x K out get hb hK
              obtain ⟨yg, hyg, rfl⟩ := get 12 _ _ rfl rfl (by kernel_rfl)
              rw [if_pos (by rw [wanted_bool rfl rfl rfl hyg]; rfl)]
              clear hyg
              clear out get
              go_simp
              refine (KA.out x (WB.out x hb)).mono ?_
              rintro e w2 ⟨rfl, hb2⟩
              exact hK _ _ rfl hb2
            · intro a x K out get hb hK
              rw [if_pos (wanted_none rfl)]
              obtain ⟨y69, hy69, rfl⟩ := get 12 _ _ rfl rfl (by kernel_rfl)
              obtain ⟨y70, hy70, rfl⟩ := get 13 _ _ rfl rfl (by kernel_rfl)
              clear out get
              go_simp
              exact hK _ _ rfl (Below.refl _ _)
            · intro a x K out get hb hK
              rw [if_pos (wanted_none rfl)]
              obtain ⟨y71, hy71, rfl⟩ := get 14 _ _ rfl rfl (by kernel_rfl)
              clear out get
              go_simp
              exact hK _ _ rfl (Below.refl _ _)
            refine ao_fin (isD := fun s => (decide (57 ≤ s) && decide (s ≤ 71)) || decide (s = 6)) (by kernel_rfl) ?_
            intro f x hv hb
            have h6 : f 6 = .bool true := hv 15 _ _ rfl rfl
            have HE := Lib.hid (WB.out x hb)
            clear hv hb
            generalize hF : (Act.mk (List.toArray (frm f _ 0 _)) _) = fr
            simp [frm] at hF
            rw [h6] at hF
            subst hF
            generalize f 57 = u57 at *
            generalize f 58 = u58 at *
            generalize f 59 = u59 at *
            generalize f 60 = u60 at *
            generalize f 61 = u61 at *
            generalize f 62 = u62 at *
            generalize f 63 = u63 at *
            generalize f 64 = u64 at *
            generalize f 65 = u65 at *
            generalize f 66 = u66 at *
            generalize f 67 = u67 at *
            generalize f 68 = u68 at *
            generalize f 69 = u69 at *
            generalize f 70 = u70 at *
            generalize f 71 = u71 at *
            clear h6 f
            go_wp2
            go_ret
            exact ⟨rfl, HE.out⟩
          · have hne : ((n2 : Int) != 0) = true := bne_iff_ne.2 (by omega)
            have HNE := Lib.hid hne
            clear hne HLP hR9 hX9
            have WB := Lib.hid fun x (hx : Below W3.heap.size W3 x) => (BX.out.go hx).2
            have CX := Lib.hid fun x (hx : Below W3.heap.size W3 x) => cellsR (BX.out.go hx).1
            go_wp2_with fail
            refine wp_region_order (fun j => ([SP.eq (.int .i64 n2), SP.eq (.bool true), SP.eq (.bool true), SP.free, SP.free, SP.free, SP.free, SP.free, SP.free, SP.free, SP.free, SP.eq (.bool true), SP.eq (.bool true), SP.eq (.bool true), SP.eq (.bool true), SP.eq (.bool true)] : List SP).getD j SP.free) (by kernel_rfl) (by kernel_rfl) ⟨?_, ?_, ?_, ?_, ?_, ?_, ?_, ?_, ?_, ?_, ?_, ?_, ?_, ?_, ?_, ?_, trivial⟩ ?_
            · intro a x K out get hb hK
              rw [if_pos (wanted_none rfl)]
              have o11 : a.tmps[11]? = some (.int .i64 n2) := out 11 (by kernel_rfl)
              clear out get
              go_simp
              exact hK _ _ rfl (Below.refl _ _)
            · intro a x K out get hb hK
              rw [if_pos (wanted_none rfl)]
              obtain ⟨y57, hy57, rfl⟩ := get 0 _ _ rfl rfl (by kernel_rfl)
              clear out get
              have hne := HNE.out
              go_simp
              exact hK _ _ rfl (Below.refl _ _)
            · intro a x K out get hb hK
              rw [if_pos (wanted_none rfl)]
              obtain ⟨y58, hy58, rfl⟩ := get 1 _ _ rfl rfl (by kernel_rfl)
              clear out get
              go_simp
              exact hK _ _ rfl (Below.refl _ _)
            · intro a x K out get hb hK
              obtain ⟨yg, hyg, rfl⟩ := get 2 _ _ rfl rfl (by kernel_rfl)
              rw [if_neg (by rw [wanted_bool rfl rfl rfl hyg]; decide)]
              exact hK _ _ trivial (Below.refl _ _)
            · intro a x K out get hb hK
              obtain ⟨yg, hyg, rfl⟩ := get 2 _ _ rfl rfl (by kernel_rfl)
              rw [if_neg (by rw [wanted_bool rfl rfl rfl hyg]; decide)]
              exact hK _ _ trivial (Below.refl _ _)
            · intro a x K out get hb hK
              obtain ⟨yg, hyg, rfl⟩ := get 2 _ _ rfl rfl (by kernel_rfl)
              rw [if_neg (by rw [wanted_bool rfl rfl rfl hyg]; decide)]
              exact hK _ _ trivial (Below.refl _ _)
            · intro a x K out get hb hK
              obtain ⟨yg, hyg, rfl⟩ := get 2 _ _ rfl rfl (by kernel_rfl)
              rw [if_neg (by rw [wanted_bool rfl rfl rfl hyg]; decide)]
              exact hK _ _ trivial (Below.refl _ _)
            · intro a x K out get hb hK
              obtain ⟨yg, hyg, rfl⟩ := get 2 _ _ rfl rfl (by kernel_rfl)
              rw [if_neg (by rw [wanted_bool rfl rfl rfl hyg]; decide)]
              exact hK _ _ trivial (Below.refl _ _)
            · intro a x K out get hb hK
              obtain ⟨yg, hyg, rfl⟩ := get 2 _ _ rfl rfl (by kernel_rfl)
              rw [if_neg (by rw [wanted_bool rfl rfl rfl hyg]; decide)]
              exact hK _ _ trivial (Below.refl _ _)
            · intro a x K out get hb hK
              obtain ⟨yg, hyg, rfl⟩ := get 2 _ _ rfl rfl (by kernel_rfl)
              rw [if_neg (by rw [wanted_bool rfl rfl rfl hyg]; decide)]
              exact hK _ _ trivial (Below.refl _ _)
            · intro a x K out get hb hK
              obtain ⟨yg, hyg, rfl⟩ := get 2 _ _ rfl rfl (by kernel_rfl)
              rw [if_neg (by rw [wanted_bool rfl rfl rfl hyg]; decide)]
              exact hK _ _ trivial (Below.refl _ _)
            · intro a x K out get hb hK
              rw [if_pos (wanted_none rfl)]
              obtain ⟨y59, hy59, rfl⟩ := get 2 _ _ rfl rfl (by kernel_rfl)
              obtain ⟨y67, hy67, -⟩ := get 10 _ _ rfl rfl (by kernel_rfl)
              clear out get
              go_simp
              exact hK _ _ rfl (Below.refl _ _)
            · intro a x K out get hb hK
              rw [if_pos (wanted_none rfl)]
              obtain ⟨y68, hy68, rfl⟩ := get 11 _ _ rfl rfl (by kernel_rfl)
              clear out get
              go_simp
              exact hK _ _ rfl (Below.refl _ _)
            · intro a x K out get hb hK
              obtain ⟨yg, hyg, rfl⟩ := get 12 _ _ rfl rfl (by kernel_rfl)
              rw [if_pos (by rw [wanted_bool rfl rfl rfl hyg]; rfl)]
              clear hyg
              clear out get
              go_simp
              refine (KA.out x (WB.out x hb)).mono ?_
              rintro e w2 ⟨rfl, hb2⟩
              exact hK _ _ rfl hb2
            · intro a x K out get hb hK
              rw [if_pos (wanted_none rfl)]
              obtain ⟨y69, hy69, rfl⟩ := get 12 _ _ rfl rfl (by kernel_rfl)
              obtain ⟨y70, hy70, rfl⟩ := get 13 _ _ rfl rfl (by kernel_rfl)
              clear out get
              go_simp
              exact hK _ _ rfl (Below.refl _ _)
            · intro a x K out get hb hK
              rw [if_pos (wanted_none rfl)]
              obtain ⟨y71, hy71, rfl⟩ := get 14 _ _ rfl rfl (by kernel_rfl)
              clear out get
              go_simp
              exact hK _ _ rfl (Below.refl _ _)
            refine ao_fin (isD := fun s => (decide (57 ≤ s) && decide (s ≤ 71)) || decide (s = 6)) (by kernel_rfl) ?_
            intro f x hv hb
            have h6 : f 6 = .bool true := hv 15 _ _ rfl rfl
            have HE := Lib.hid (WB.out x hb)
            clear hv hb
            generalize hF : (Act.mk (List.toArray (frm f _ 0 _)) _) = fr
            simp [frm] at hF
            rw [h6] at hF
            subst hF
            generalize f 57 = u57 at *
            generalize f 58 = u58 at *
            generalize f 59 = u59 at *
            generalize f 60 = u60 at *
            generalize f 61 = u61 at *
            generalize f 62 = u62 at *
            generalize f 63 = u63 at *
            generalize f 64 = u64 at *
            generalize f 65 = u65 at *
            generalize f 66 = u66 at *
            generalize f 67 = u67 at *
            generalize f 68 = u68 at *
            generalize f 69 = u69 at *
            generalize f 70 = u70 at *
            generalize f 71 = u71 at *
            clear h6 f
            go_wp2
            go_ret
            exact ⟨rfl, HE.out⟩
        · have hz1 : s.size = 0 := by omega
          have hz2 : ((s.size : Int) == 0) = true := beq_iff_eq.2 (by omega)
          clear hz1
          go_wp2_with fail
          refine (KA.out _ BX.out.2).mono ?_
          rintro e w' ⟨rfl, hb⟩
          have HE := Lib.hid (BX.out.2.trans (hb.mono BX.out.2.size))
          clear hb
          go_wp2
          go_ret
          exact ⟨rfl, HE.out⟩
      · have hn2 : ((n1 : Int) == 0) = false := by simp; exact hn1
        clear hX9 hR9 HLW
        go_wp2_with fail
        refine (KA.out _ BX.out.2).mono ?_
        rintro e w' ⟨rfl, hb⟩
        have HE := Lib.hid (BX.out.2.trans (hb.mono BX.out.2.size))
        clear hb
        go_wp2
        go_ret
        exact ⟨rfl, HE.out⟩
    · have q1 : (8 : Int) < (s.size : Int) := by omega
      go_wp2_with fail
      refine (KA.out _ BX.out.2).mono ?_
      rintro e w' ⟨rfl, hb⟩
      have HE := Lib.hid (BX.out.2.trans (hb.mono BX.out.2.size))
      clear hb
      go_wp2
      go_ret
      exact ⟨rfl, HE.out⟩
end Go.Proofs.YtkieoomjenhacaaGreatDoor
