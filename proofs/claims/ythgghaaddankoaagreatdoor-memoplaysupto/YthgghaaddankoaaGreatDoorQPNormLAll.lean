/- Lemmas of mine, merged: QPNormL, QPNormQ, QPNormR, QPNormS, QPNormT, QPMemI, QPMemA, QPMemW0, QPMemW1, QPMemPlaysW, QPMemE, QPMemH, QPMemJ, QPMemK, QPMemL, QPMemQ, QPMemX. -/
import Derived.Deep.CutRange
import Derived.Test.YthgghaaddankoaaGreatDoorQPRdrDAll
import Derived.Test.YthgghaaddankoaaGreatDoorQPOrdOAll
import Derived.Test.YthgghaaddankoaaGreatDoorQPRexEAll
import Derived.Test.YthgghaaddankoaaGreatDoorQPRexJAll
import Derived.Test.YthgghaaddankoaaGreatDoorQPReadJAll
import Derived.Test.YthgghaaddankoaaGreatDoorQPSetCAll
import Derived.Test.YthgghaaddankoaaGreatDoorQPSetEAll
import Derived.Test.YthgghaaddankoaaGreatDoorQPSetAAll
import Derived.Test.YthgghaaddankoaaGreatDoorQPRexBAll
import Derived.Test.YthgghaaddankoaaGreatDoorQPFstIAll
import Derived.Maps.OwnSet
import Derived.Maps.Views
import Derived.StringKeys
import Derived.Test.YthgghaaddankoaaGreatDoorQPRdrCAll
import Derived.Test.YthgghaaddankoaaGreatDoorQPAnyOrdTAll
/- Lemmas of mine. -/
namespace Go.Proofs.YthgghaaddankoaaGreatDoor
open Go.RowKit
theorem onceR_len (l : List Rx) : (onceR l).length ≤ l.length := by
  have := onceFrom_length l []
  simpa [onceR] using this
theorem gathP_len (p : List Ex) : (gathP p).length ≤ p.length + 1 := by
  have h : (bareL p).length ≤ p.length := List.length_filter_le _ _; unfold gathP
  split
  · omega
  · simp only [List.length_append, List.length_singleton]; omega
theorem ofR_some {s : Ws} (h : s ≠ Ws.nil) : ofR s = (Ex.cls s).rx := by
  unfold ofR; rw [if_neg (fun e => h (sameW_iff.1 e))]
  rfl
def CutP (B : Nat) (X : Nat → Prop) (o : Nat) (ps : List Ex) (W1 w : World) : Prop := PV B X (Lo B) o ps w ∧ Below B W1 w
theorem last_any {ok : Nat → Prop} (ps : List Ex) (al : Option Addr) (cap : Nat) (w : World) (hl : ps.length ≤ 1000000) (h : RowAt ok w al (ps.map Ex.rx)) :
    Calls Tryz.prog 99 #[.slice al ps.length cap] w fun x w3 => ∃ (n3 : Nat) (al3 : Option Addr), x = .returned (.slice al3 n3 n3) ∧ Below w.heap.size w w3 ∧
      Calls Tryz.prog 98 #[.slice al3 n3 n3] w3 fun x w4 => ∃ (n4 : Nat) (al4 : Option Addr), x = .returned (.slice al4 n4 n4) ∧ Below w3.heap.size w3 w4 ∧
        Calls Tryz.prog 94 #[.slice al4 n4 n4] w4 (NewPost (foldA (canE ps)).rx w4) := by
  have K := sort_any (ps.map Ex.rx) al cap w (by rw [List.length_map]; exact hl) h; rw [List.length_map] at K; refine K.mono ?_; rintro x w3 ⟨al3, rfl, hr3, hb3⟩; refine ⟨_, al3, rfl, hb3, ?_⟩; (have hS : (sortR (ps.map Ex.rx)).length ≤ 1000000 := by rw [sortR_length, List.length_map]; exact hl); refine (once_any (sortR (ps.map Ex.rx)) al3 _ w3 hS hr3).mono ?_; rintro x w4 ⟨al4, rfl, hr4, hb4⟩; refine ⟨_, al4, rfl, hb4, ?_⟩; rw [foldA_rx, canE_map]; exact or_any _ al4 _ w4 (Nat.lt_of_le_of_lt (onceR_len _) (by omega)) hr4
set_option maxRecDepth 100000 in
set_option maxHeartbeats 8000000 in
theorem nmAlt_any (ok : Nat → Prop) (l : List Ex) (al0 : Option Addr) (cap : Nat) (w : World) (hlen : l.length < 2199023255552) (hM : (partL 5 l).length ≤ 900000) (hR : RowAt ok w al0 (l.map Ex.rx)) :
    Calls Tryz.prog 61 #[.slice al0 l.length cap] w (NewPost (altE l).rx w) := by
  obtain ⟨W1, hW1⟩ : ∃ x, x = ((w.alloc zR).alloc (.cells #[.slice none 0 0] 27)).alloc (.cells #[.int .u64 0, .int .u64 0, .int .u64 0, .int .u64 0] 37) := ⟨_, rfl⟩; (have hb1 : Below w.heap.size w W1 := by rw [hW1]; exact al3 w _ _ _); obtain ⟨hz, ho, hc, hsz⟩ := three_new w zR (.cells #[.slice none 0 0] 27) (.cells #[.int .u64 0, .int .u64 0, .int .u64 0, .int .u64 0] 37); rw [← hW1] at hz ho hc hsz; (have hB : w.heap.size + 1 ≤ W1.heap.size := by omega); have hR1 : RowAt (Lo (w.heap.size + 1)) W1 al0 (l.map Ex.rx) := (hR.imp (ok' := Lo (w.heap.size + 1)) fun b hb _ => Nat.lt_succ_of_lt hb).below hb1; obtain ⟨X, hX⟩ : ∃ X : Nat → Prop, X = fun b => b = w.heap.size + 1 ∨ b = w.heap.size + 2 := ⟨_, rfl⟩
  have hXB : ∀ x, X x → w.heap.size + 1 ≤ x := fun x h => by rw [hX] at h; rcases h with rfl | rfl <;> omega
  (have hXo : X (w.heap.size + 1) := by rw [hX]; exact .inl rfl); (have hXc : X (w.heap.size + 2) := by rw [hX]; exact .inr rfl)
  have hXl : ∀ x, X x → x < W1.heap.size := fun x h => by rw [hX] at h; rcases h with rfl | rfl <;> omega
  have hT : Tell 1000000 (w.heap.size + 1) W1 96 #[.pointer (some ⟨w.heap.size + 2, 0, none⟩), .pointer (some ⟨w.heap.size + 1, 0, none⟩)] (AltI (w.heap.size + 1) X (w.heap.size + 1) (w.heap.size + 2)) (fun _ => True) := by
    refine ⟨fun v W => rfl, fun done W W' h hb => ⟨h.1.below hb, h.2.1.below hb h.2.1.lt, h.2.2⟩, fun done e v W hd hI hB' _ hre => ?_⟩; exact alt1_any hXo hXc (by omega) hXB (Nat.le_trans hB hB'.size) hd hI hre
  have K0 := each_any (k := 5) (.inr rfl) hB hT (Ex.sum l) l al0 cap [] W1 (Nat.le_refl _) hlen hR1 (fun _ _ => trivial) (by simp only [List.nil_append]; omega) ⟨PV.start ho hXl, hc, Ws.nil_ok⟩ (Below.refl _ _); simp only [List.nil_append] at K0; rw [altE_part]; generalize partL 5 l = p at *; have KF := Lib.hid fun al cap W (h : RowAt (fun b => Lo (w.heap.size + 1) b ∨ w.heap.size + 1 ≤ b) W al ((gathP p).map Ex.rx)) => last_any (gathP p) al cap W (Nat.le_trans (gathP_len p) (by omega)) h; generalize foldA (canE (gathP p)) = res at *; have HG := Lib.hid (show gathP p = if setE p = Ws.nil then bareL p else bareL p ++ [.cls (setE p)] from rfl); have hbl : (bareL p).length ≤ 900000 := Nat.le_trans (List.length_filter_le _ _) hM; have K := Lib.hid K0; rw [show (((5 : Nat) : Int)) = 5 from rfl] at K; have HB1 := Lib.hid hb1; have HW1 := Lib.hid hW1; have HZ := Lib.hid fun w2 (h : Below (w.heap.size + 1) W1 w2) => (h.block _ (Nat.lt_succ_self _)).trans hz; (have hsz2 : w.heap.size < W1.heap.size := by omega); have HOK := Lib.hid (show ∀ b, Lo (w.heap.size + 1) b → ¬ X b from fun b h hb => by have := hXB b hb; have : b < w.heap.size + 1 := h; omega); have hBo : w.heap.size + 1 ≤ w.heap.size + 1 := Nat.le_refl _; clear hR hR1 hT hb1 ho hc hz hX hXB hXl K0; go_enter Tryz.func61, Tryz.ntmps61; go_wp2_with fail; rw [← HW1.out]; refine K.out.mono ?_; rintro x w2 ⟨rfl, hI, hb2⟩; obtain ⟨hP, hV, hsok⟩ := hI; obtain ⟨⟨ta, tb, tc, td⟩, ht⟩ : ∃ t, t = setE p := ⟨_, rfl⟩; rw [← ht] at hV hsok HG; obtain ⟨⟨t0, t1, t2, t3⟩, -⟩ := hV.all; have HBC := Lib.hid hb2; have HP := Lib.hid hP; have HVB := Lib.hid hV; have HSK := Lib.hid hsok; clear hP hV hsok hb2 K HW1 ht
  by_cases hn : (⟨ta, tb, tc, td⟩ : Ws) = Ws.nil
  · rw [hn, if_pos rfl] at HG; injection hn with n0 n1 n2 n3; subst n0 n1 n2 n3; have HPV : Hid (PV (w.heap.size + 1) X (Lo (w.heap.size + 1)) (w.heap.size + 1) (gathP p) w2) := Lib.hid (by rw [HG.out]; exact HP.out); have EQ := eqW_yes Ws.nil; rw [nil_v] at EQ; clear HG HP; generalize gathP p = ps at *; obtain ⟨al2, cap2, hv, hcp, hr⟩ := HPV.out.out; obtain ⟨c0, -⟩ := var_cell hv; have HZ2 := Lib.hid (HZ.out w2 HBC.out); have HB2 := Lib.hid (HB1.out.trans (HBC.out.mono (Nat.le_succ _))); have hs2 : w.heap.size < w2.heap.size := Nat.lt_of_lt_of_le hsz2 HBC.out.size; have KS := Lib.hid (KF.out al2 cap2 w2 hr); clear hv hcp hr; go_wp2_with fail; refine KS.out.mono ?_; rintro x w3 ⟨n3, al3, rfl, hb3, K3⟩; have K3 := Lib.hid K3; have hz3 := (hb3.block _ hs2).trans HZ2.out; have HZ3 := Lib.hid hz3; have HB3 := Lib.hid (HB2.out.trans (hb3.mono HB2.out.size)); have hs3 : w.heap.size < w3.heap.size := Nat.lt_of_lt_of_le hs2 hb3.size; clear hb3 hz3 c0 KS; go_wp2_with fail; refine K3.out.mono ?_; rintro x w4 ⟨n4, al4, rfl, hb4, K4⟩; have K4 := Lib.hid K4; have hz4 := (hb4.block _ hs3).trans HZ3.out; have HZ4 := Lib.hid hz4; have HB4 := Lib.hid (HB3.out.trans (hb4.mono HB3.out.size)); have hs4 : w.heap.size < w4.heap.size := Nat.lt_of_lt_of_le hs3 hb4.size; clear hb4 hz4 K3; go_wp2_with fail; refine K4.out.mono ?_; rintro x w5 ⟨v1, rfl, hv1, hb5⟩; obtain ⟨p0, p1, p2, p3, p4, pl, pn, pc, rfl⟩ := cells_re hv1; have hz5 := (hb5.block _ hs4).trans HZ4.out; have HV := Lib.hid hv1; have HZ5 := Lib.hid hz5; have HB5 := Lib.hid (HB4.out.trans (hb5.mono HB4.out.size)); obtain ⟨d0, d1, d2, d3, d4, d5, f0, f1, f2, f3, f4, f5⟩ := cellsR hz5; clear hv1 hb5 hz5 K4; go_wp2; exact ret_new HZ5.out HV.out hs4 HB5.out (Nat.le_refl _) Tryz.results61 rfl rfl
  · rw [if_neg hn] at HG; have EQ := eqW_no hn; rw [nil_v] at EQ; simp only [Ws.v] at EQ; have CE := Lib.hid (show ∀ x w3, PushPost (w.heap.size + 1) X (Lo (w.heap.size + 1)) (w.heap.size + 1) (bareL p ++ [.cls ⟨ta, tb, tc, td⟩]) w2 x w3 → CutP (w.heap.size + 1) X (w.heap.size + 1) (gathP p) W1 w3 from fun x w3 h => ⟨by rw [HG.out]; exact h.2.1, HBC.out.trans h.2.2.1⟩); have KOF := Lib.hid fun W => ofX_any ⟨ta, tb, tc, td⟩ W HSK.out; rw [ofR_some hn] at KOF; simp only [Ws.v] at KOF; clear HG; generalize gathP p = qs at *; generalize bareL p = ps at *; obtain ⟨v, xs, h1, hown, h3, h4⟩ := HP.out; obtain ⟨al, vc, rfl⟩ : ∃ al c, v = .slice al ps.length c := own_form hown; obtain ⟨i0, z0, hi0, hz0, hz1, hz2, hz3⟩ := infoR2; have hz2' := Lib.hid hz2; have HX : X (w.heap.size + 1) := hXo; have HOWN := Lib.hid hown; have H3 := Lib.hid h3; have H4 := Lib.hid h4; have hBw : w.heap.size + 1 ≤ w2.heap.size := Nat.le_trans hB HBC.out.size; have V0 := Lib.hid h1; clear hz2 hown h3 h4 h1 HP
    go_upto_region 5 with fail
    clear EQ t0 t1 t2 t3
    go_cut [2] from 11 to 17 (fun v wx => v = .pointer (some ⟨w.heap.size, 0, none⟩) ∧ CutP (w.heap.size + 1) X (w.heap.size + 1) qs W1 wx)
    case first =>
      have WB := Lib.hid fun x (hx : Below w2.heap.size w2 x) => hx; have VO := Lib.hid fun x (hx : Below w2.heap.size w2 x) => (hx.block _ (H4.out _ HX).1).trans V0.out; have CB := Lib.hid fun x (hx : Below w2.heap.size w2 x) => (HVB.out.below hx HVB.out.lt).all; refine wp_region_orderA 5 (fun i => ([SP.eq (.slice al ps.length vc), SP.eq (.agg #[.int .u64 ta, .int .u64 tb, .int .u64 tc, .int .u64 td]), SP.ex (fun b => Lo (w.heap.size + 1) b ∧ (Value.slice al ps.length vc).ownBlock ≠ some b) (.cls ⟨ta, tb, tc, td⟩), SP.eq (.int .i64 ps.length), SP.zero] : List SP).getD i SP.free) (fun _ => false) (fun _ _ _ h => by cases h) (by kernel_rfl) (by kernel_rfl) ⟨?_, ?_, ?_, ?_, ?_, trivial⟩ ?_
      · intro a x K out get hb hK; rw [if_pos (wanted_none rfl)]; have o3 : a.tmps[3]? = some (.pointer (some ⟨w.heap.size + 1, 0, none⟩)) := out 3 (by kernel_rfl); obtain ⟨c0, -⟩ := var_cell (VO.out x hb); clear out get; go_simp; exact hK _ _ rfl (Below.refl _ _) (fun h => by cases h)
      · intro a x K out get hb hK; rw [if_pos (wanted_none rfl)]; have o4 : a.tmps[4]? = some (.pointer (some ⟨w.heap.size + 1 + 1, 0, none⟩)) := out 4 (by kernel_rfl); obtain ⟨⟨c0, c1, c2, c3⟩, -⟩ := CB.out x hb; clear out get; go_simp; exact hK _ _ rfl (Below.refl _ _) (fun h => by cases h)
      · intro a x K out get hb hK; rw [if_pos (wanted_none rfl)]; obtain ⟨y12, hy12, rfl⟩ := get 1 _ _ rfl rfl (by kernel_rfl); clear out get; go_simp; refine (KOF.out x).mono ?_; rintro e w2 ⟨v2, rfl, hv2, hb2⟩; exact hK _ _ (ExV.of (leaf_any w2 hv2) fun _ _ h => h) hb2 (fun h => by cases h)
      · intro a x K out get hb hK; rw [if_pos (wanted_none rfl)]; obtain ⟨y11, hy11, rfl⟩ := get 0 _ _ rfl rfl (by kernel_rfl); clear out get; go_simp; exact hK _ _ rfl (Below.refl _ _) (fun h => by cases h)
      · intro a x K out get hb hK; rw [if_pos (wanted_none rfl)]; clear out get; go_simp; exact hK _ _ ⟨_, rfl, blk_new _ _⟩ (bel_al _ _) (fun h => by cases h)
      refine ao_finA (isD := fun s => decide (11 ≤ s) && decide (s ≤ 17)) (by kernel_rfl) ?_; intro f x hv hne hb; clear hne; have e11 : f 11 = _ := hv 0 _ _ (by decide) rfl rfl; have e14 : f 14 = _ := hv 3 _ _ (by decide) rfl rfl; obtain ⟨p0, p1, p2, p3, p4, pl, pn, pc, e13, he⟩ := hv 2 _ _ (by decide) rfl rfl; obtain ⟨gz, e15, hz⟩ := hv 4 _ _ (by decide) rfl rfl; have hbx := WB.out x hb; have hox := VO.out x hb; have HE := Lib.hid he; have hownx := ownR_below HOWN.out hbx; have hBx := Nat.le_trans hBw hbx.size; clear hv he; generalize hF : (Act.mk (List.toArray (frm f _ 0 _)) _) = fr; simp [frm] at hF; rw [e11, e14, e13, e15] at hF; subst hF; generalize f 12 = u12 at *; generalize f 16 = u16 at *; generalize f 17 = u17 at *; clear e11 e14 e13 e15 f; refine wp_end (n := 5) (by kernel_rfl) rfl rfl rfl rfl ?_; refine step_append_lies _ rfl (.tmp 11) (.tmp 15) 27 rfl (w.heap.size + 1) 39 i0 z0 6 64 Tryz.underlying27 hi0 hz0 hz1 hz2'.out hz3 (by decide) (.slice al ps.length vc) ps.length xs rfl hownx ⟨gz, 0, none⟩ 1 1 [.int .u8 0, .int .u64 0, .int .u64 0, .int .u64 0, .int .u64 0, .slice none 0 0] rfl rfl (zero_at hz) zero6_one (by decide) (by unfold maxLen; omega) (by omega) hBx _ rfl ?_; intro g' cap' w2 hown hgrow hat hlt; obtain ⟨⟨n0, n1, n2, n3, n4, n5⟩, m0, m1, m2, m3, m4, m5⟩ := new6 HOWN.out.1 hown
      have hne : ¬ w.heap.size + 1 = g' := fun e => by
        rcases hat with h | h
        · exact (H4.out _ HX).2 (by rw [h, e])
        · have := (H4.out _ HX).1; have := hbx.size; omega
      have hne' : ¬ g' = w.heap.size + 1 := fun e => hne e.symm; have hvo := (hgrow.block _ (Nat.lt_of_lt_of_le (H4.out _ HX).1 hbx.size) fun e => (H4.out _ HX).2 e.symm).trans hox; obtain ⟨v0c, v0f⟩ := var_cell hvo; (have hidx : (ps.length : Int) < (ps.length : Int) + 1 := by omega); have HOW := Lib.hid hown; have HGR := Lib.hid hgrow; have HAT := Lib.hid hat; have HBX := Lib.hid hbx; have HVO := Lib.hid hvo; clear hown hgrow hat hbx hvo hox hz hownx hBx hb; refine ⟨?_, ?_⟩
      · rw [if_pos (wanted_none rfl)]; go_simp; refine ⟨?_, ?_⟩
        · go_wp2_with fail
          go_meet
          exact ⟨rfl, CE.out _ _ (push_closeA HX HOK.out hBo hBw HOWN.out H3.out H4.out HBX.out HE.out HOW.out HGR.out HAT.out HVO.out hne)⟩
        · go_wp2_with fail
          go_meet
          exact ⟨rfl, CE.out _ _ (push_closeB HX HOK.out hBo hBw HOWN.out H3.out H4.out HBX.out HE.out HOW.out HGR.out HAT.out HVO.out hne)⟩
      · go_wp2_with fail
        go_meet
        exact ⟨rfl, CE.out _ _ (push_closeB HX HOK.out hBo hBw HOWN.out H3.out H4.out HBX.out HE.out HOW.out HGR.out HAT.out HVO.out hne)⟩
    case rest =>
      obtain ⟨rfl, hcp0⟩ := hcut; have HPV := Lib.hid hcp0.1; have HBD := Lib.hid hcp0.2; clear hcp0 HBC HVB HOWN H3 H4 V0 CE KOF; obtain ⟨al2, cap2, hv, hcp, hr⟩ := HPV.out.out; obtain ⟨c0, -⟩ := var_cell hv; have HZ2 := Lib.hid (HZ.out wc HBD.out); have HB2 := Lib.hid (HB1.out.trans (HBD.out.mono (Nat.le_succ _))); have hs2 : w.heap.size < wc.heap.size := Nat.lt_of_lt_of_le hsz2 HBD.out.size; have KS := Lib.hid (KF.out al2 cap2 wc hr); clear hv hcp hr; go_wp2_with fail; refine KS.out.mono ?_; rintro x w3 ⟨n3, al3, rfl, hb3, K3⟩; have K3 := Lib.hid K3; have hz3 := (hb3.block _ hs2).trans HZ2.out; have HZ3 := Lib.hid hz3; have HB3 := Lib.hid (HB2.out.trans (hb3.mono HB2.out.size)); have hs3 : w.heap.size < w3.heap.size := Nat.lt_of_lt_of_le hs2 hb3.size; clear hb3 hz3 c0 KS; go_wp2_with fail; refine K3.out.mono ?_; rintro x w4 ⟨n4, al4, rfl, hb4, K4⟩; have K4 := Lib.hid K4; have hz4 := (hb4.block _ hs3).trans HZ3.out; have HZ4 := Lib.hid hz4; have HB4 := Lib.hid (HB3.out.trans (hb4.mono HB3.out.size)); have hs4 : w.heap.size < w4.heap.size := Nat.lt_of_lt_of_le hs3 hb4.size; clear hb4 hz4 K3; go_wp2_with fail; refine K4.out.mono ?_; rintro x w5 ⟨v1, rfl, hv1, hb5⟩; obtain ⟨p0, p1, p2, p3, p4, pl, pn, pc, rfl⟩ := cells_re hv1; have hz5 := (hb5.block _ hs4).trans HZ4.out; have HV := Lib.hid hv1; have HZ5 := Lib.hid hz5; have HB5 := Lib.hid (HB4.out.trans (hb5.mono HB4.out.size)); obtain ⟨d0, d1, d2, d3, d4, d5, f0, f1, f2, f3, f4, f5⟩ := cellsR hz5; clear hv1 hb5 hz5 K4; go_wp2; exact ret_new HZ5.out HV.out hs4 HB5.out (Nat.le_refl _) Tryz.results61 rfl rfl
open Go.RowKit
set_option maxHeartbeats 4000000 in
set_option maxRecDepth 100000 in
theorem nstar_any (a : Ex) (ok : Nat → Prop) (v : Value) (w : World) (h : ReAt ok w v a.rx) : Calls Tryz.prog 62 #[v] w (ExPost ok (starE a) w) := by
  obtain ⟨ka, ⟨sa, sb, sc, sd⟩, ksa, hsa⟩ := rx_form a; have HA := Lib.hid h; rw [hsa] at h; obtain ⟨_, _, al, cap, rfl, hcap, _, hrow⟩ := h; simp only at HA ⊢; have k1a := kind_emp hsa; have k2a := kind_eps hsa; have k6a := kind_star hsa; have KB := Lib.hid fun W => then_any (ok := fun _ => True) [] none 0 W (by decide) (.inl rfl); rw [show foldR 4 2 [] = Ex.eps.rx from rfl, show ([] : List Rx).length = 0 from rfl] at KB; have B := Lib.hid (Bn1.new w (.cells #[.int .u8 ka, .int .u64 sa, .int .u64 sb, .int .u64 sc, .int .u64 sd, .slice al ksa.length cap] 39))
  cases q1 : a.isEmp with
  | true =>
    rw [q1] at k1a; rw [starE_bare (.inl q1)]; clear q1 hrow hsa k2a k6a HA; go_enter Tryz.func62, Tryz.ntmps62; go_wp2_with fail; refine (KB.out _).mono ?_; rintro e w1 ⟨v1, rfl, hv1, hb1⟩; obtain ⟨p0, p1, p2, p3, p4, pl, pn, pc, rfl⟩ := cells_re hv1; have B1 := Lib.hid (B.out.go hb1); have HV := Lib.hid (leaf_any (ok' := okN ok w.heap.size) w1 hv1); clear hv1 hb1 B; obtain ⟨c0, c1, c2, c3, c4, c5, f0, f1, f2, f3, f4, f5⟩ := cellsR B1.out.2.1; go_wp2; exact ret_ex (e := .eps) B1.out.2.1 HV.out B1.out.2.2 (by omega) Tryz.results62 rfl rfl
  | false =>
  rw [q1] at k1a
  cases q2 : a.isEps with
  | true =>
    rw [q2] at k2a; rw [starE_bare (.inr q2)]; clear q1 q2 hrow hsa k6a HA; go_enter Tryz.func62, Tryz.ntmps62; go_wp2_with fail; refine (KB.out _).mono ?_; rintro e w1 ⟨v1, rfl, hv1, hb1⟩; obtain ⟨p0, p1, p2, p3, p4, pl, pn, pc, rfl⟩ := cells_re hv1; have B1 := Lib.hid (B.out.go hb1); have HV := Lib.hid (leaf_any (ok' := okN ok w.heap.size) w1 hv1); clear hv1 hb1 B; obtain ⟨c0, c1, c2, c3, c4, c5, f0, f1, f2, f3, f4, f5⟩ := cellsR B1.out.2.1; go_wp2; exact ret_ex (e := .eps) B1.out.2.1 HV.out B1.out.2.2 (by omega) Tryz.results62 rfl rfl
  | false =>
  rw [q2] at k2a
  cases q3 : a.isStar with
  | true =>
    rw [q3] at k6a; rw [starE_star q3]; clear q1 q2 q3 hrow hsa KB; go_enter Tryz.func62, Tryz.ntmps62; go_wp2; exact ret_re (blk_at _ _ (by simp)) Tryz.results62 rfl rfl ⟨_, rfl, (HA.out.below (al2 w _ _)).imp fun _ _ h => Or.inl h, al2 w _ _⟩
  | false =>
    rw [q3] at k6a; rw [starE_plain q1 q2 q3]; have KM := Lib.hid fun W (hb : Below w.heap.size w W) => manyX_any a.rx _ W (HA.out.below hb); clear q1 q2 q3 hrow hsa KB HA; go_enter Tryz.func62, Tryz.ntmps62; go_wp2_with fail; refine (KM.out _ B.out.2.2).mono ?_; rintro e w1 ⟨v1, rfl, hv1, hb1⟩; obtain ⟨p0, p1, p2, p3, p4, pl, pn, pc, rfl⟩ := cells_re hv1; have B1 := Lib.hid (B.out.go hb1); have HV := Lib.hid (show ReAt (okN ok w.heap.size) w1 (.agg #[.int .u8 p0, .int .u64 p1, .int .u64 p2, .int .u64 p3, .int .u64 p4, .slice pl pn pc]) (Ex.star a).rx from hv1.imp fun b _ h => .inr (Nat.le_trans B.out.2.2.size h)); clear hv1 hb1 B; obtain ⟨c0, c1, c2, c3, c4, c5, f0, f1, f2, f3, f4, f5⟩ := cellsR B1.out.2.1; go_wp2; exact ret_ex (e := .star a) B1.out.2.1 HV.out B1.out.2.2 (by omega) Tryz.results62 rfl rfl
theorem sum_part (k : Nat) : ∀ e : Ex, Ex.sum (partE k e) ≤ e.size
  | .empty => by simp [partE, Ex.sum, Ex.size]
  | .eps => by simp [partE, Ex.sum, Ex.size]
  | .cls s => by simp [partE, Ex.sum, Ex.size]
  | .star a => by simp [partE, Ex.sum]
  | .seq a b => by
    have h1 := sum_part k a; have h2 := sum_part k b; unfold partE
    split
    · simp only [Ex.sum, List.map_append, List.sum_append, Ex.size] at *; omega
    · simp [Ex.sum]
  | .alt a b => by
    have h1 := sum_part k a; have h2 := sum_part k b; unfold partE
    split
    · simp only [Ex.sum, List.map_append, List.sum_append, Ex.size] at *; omega
    · simp [Ex.sum]
theorem sum_parts (k : Nat) (l : List Ex) : Ex.sum (partL k l) ≤ Ex.sum l := by
  induction l with
  | nil => simp [partL, Ex.sum]
  | cons e l ih =>
    have h := sum_part k e; simp only [partL, List.flatMap_cons, Ex.sum, List.map_append, List.sum_append, List.map_cons, List.sum_cons] at *; omega
theorem sum_nf (l : List Ex) : Ex.sum (l.map nfE) ≤ Ex.sum l := by
  induction l with
  | nil => simp [Ex.sum]
  | cons e l ih =>
    have h := nf_size e; simp only [Ex.sum, List.map_cons, List.sum_cons] at *; omega
theorem parts_len (k : Nat) (l : List Ex) : (partL k l).length ≤ Ex.sum l := by
  induction l with
  | nil => simp [partL]
  | cons e l ih =>
    have h := part_len k e; simp only [partL, List.flatMap_cons, List.length_append, Ex.sum, List.map_cons, List.sum_cons] at *; omega
theorem whole_len (k : Nat) (l : List Ex) : (partL k ((partL k l).map nfE)).length ≤ Ex.sum l :=
  Nat.le_trans (parts_len k _) (Nat.le_trans (sum_nf _) (sum_parts k l))
theorem leaf_nf {e : Ex} {k : Nat} {s : Ws} {ks : List Rx} (h : e.rx = .node k s ks) (h4 : e.isSeq = false) (h5 : e.isAlt = false) (h6 : e.isStar = false) : (nfE e).rx = .node k s [] := by
  cases e with
  | empty => rw [← show ks = [] from by simp only [Ex.rx] at h; injection h with _ _ h3; exact h3.symm, ← h]; rfl
  | eps => rw [← show ks = [] from by simp only [Ex.rx] at h; injection h with _ _ h3; exact h3.symm, ← h]; rfl
  | cls s => rw [← show ks = [] from by simp only [Ex.rx] at h; injection h with _ _ h3; exact h3.symm, ← h]; rfl
  | seq a b => cases h4
  | alt a b => cases h5
  | star a => cases h6
set_option maxHeartbeats 4000000 in
set_option maxRecDepth 100000 in
theorem normal_leaf {e : Ex} (h4 : e.isSeq = false) (h5 : e.isAlt = false) (h6 : e.isStar = false) {ok : Nat → Prop} (v : Value) (w : World) (h : ReAt ok w v e.rx) : Calls Tryz.prog 44 #[v] w (NewPost (nfE e).rx w) := by
  obtain ⟨ka, ⟨sa, sb, sc, sd⟩, ksa, hsa⟩ := rx_form e; rw [hsa] at h; obtain ⟨hk256, hsok, al, cap, rfl, hcap, _, hrow⟩ := h; simp only; rw [leaf_nf hsa h4 h5 h6]; have k4a := kind_seq hsa; have k5a := kind_alt hsa; have k6a := kind_star hsa; rw [h4] at k4a; rw [h5] at k5a; rw [h6] at k6a; have HS := Lib.hid hsok; clear hrow hcap hsa h4 h5 h6 hsok; go_enter Tryz.func44, Tryz.ntmps44; go_wp2; exact ret_re (blk_at _ _ (by simp)) Tryz.results44 rfl rfl ⟨_, rfl, bareAt _ _ ka ⟨sa, sb, sc, sd⟩ hk256 HS.out, al2 w _ _⟩
set_option maxHeartbeats 8000000 in
set_option maxRecDepth 100000 in
theorem normal_step {N : Nat} (hN : N < 800000) (ih : NrmC N) : NrmC (N + 1) := by
  intro e hs hw ok v w h; have h0 := h; obtain ⟨ka, ⟨sa, sb, sc, sd⟩, ksa, hsa⟩ := rx_form e; rw [hsa] at h; obtain ⟨hk256, hsok, al, cap, rfl, hcap, _, hrow⟩ := h; simp only at h0 ⊢; have B := Lib.hid (Bn1.new w (.cells #[.int .u8 ka, .int .u64 sa, .int .u64 sb, .int .u64 sc, .int .u64 sd, .slice al ksa.length cap] 39)); have IH := Lib.hid ih; clear ih; have k4a := kind_seq hsa; have k5a := kind_alt hsa; have k6a := kind_star hsa
  cases e with
  | seq a b =>
    simp only [Ex.rx] at hsa; injection hsa with e1 e2 e3; subst e1; subst e3; simp only [Ex.size] at hs; (have hsum : Ex.sum [a, b] < 900000 := by simp [Ex.sum]; omega); obtain ⟨L, hL⟩ : ∃ L, L = (partL 4 [a, b]).map nfE := ⟨_, rfl⟩; have hwl := Nat.lt_of_le_of_lt (whole_len 4 [a, b]) hsum; have hpl := Nat.lt_of_le_of_lt (parts_len 4 [a, b]) hsum
    have KN := Lib.hid fun W (hb : Below w.heap.size w W) => normals_any (k := 4) IH.out (.inl rfl) ok [a, b] al cap W (fun x hx => by
      simp at hx
      rcases hx with rfl | rfl
      · exact ⟨by omega, hw.1⟩
      · exact ⟨by omega, hw.2⟩) (by simp) (by omega) (hrow.below hb)
    have KS := Lib.hid fun ok al cap W (h : RowAt ok W al (L.map Ex.rx)) => nmSeq_any ok L al cap W (by have := parts_len 4 [a, b]; rw [hL, List.length_map]; omega) (by rw [hL]; omega) h; rw [← hL] at KN; have hnode := seq_node a b; rw [← hL] at hnode; rw [hnode] at KS; rw [show ([a, b] : List Ex).length = 2 from rfl, show (((4 : Nat) : Int)) = 4 from rfl] at KN; rw [show ([a.rx, b.rx] : List Rx).length = 2 from rfl, show (((4 : Nat) : Int)) = 4 from rfl] at B ⊢; generalize nfE (.seq a b) = res at *; clear h0 hL hnode hwl hpl hsum k4a k5a k6a hw hrow hcap hsok e2 IH hk256; go_enter Tryz.func44, Tryz.ntmps44; go_wp2_with fail; refine (KN.out _ B.out.2.2).mono ?_; rintro x w1 ⟨al2, cap2, rfl, hcp, hr, hb1⟩; have B1 := Lib.hid (B.out.go hb1); have KS1 := Lib.hid (KS.out _ al2 cap2 w1 hr); clear hcp hr hb1 B KN KS; go_wp2_with fail; refine KS1.out.mono ?_; rintro x w2 ⟨v1, rfl, hv1, hb2⟩; obtain ⟨p0, p1, p2, p3, p4, pl, pn, pc, rfl⟩ := cells_re hv1; have B2 := Lib.hid (B1.out.go hb2); have HV := Lib.hid hv1; have hlt := (Array.getElem?_eq_some_iff.1 B1.out.2.1).1; clear hv1 hb2 KS1 B1; obtain ⟨c0, c1, c2, c3, c4, c5, f0, f1, f2, f3, f4, f5⟩ := cellsR B2.out.2.1; go_wp2; exact ret_new B2.out.2.1 HV.out hlt B2.out.2.2 (by omega) Tryz.results44 rfl rfl
  | alt a b =>
    simp only [Ex.rx] at hsa; injection hsa with e1 e2 e3; subst e1; subst e3; simp only [Ex.size] at hs; (have hsum : Ex.sum [a, b] < 900000 := by simp [Ex.sum]; omega); obtain ⟨L, hL⟩ : ∃ L, L = (partL 5 [a, b]).map nfE := ⟨_, rfl⟩; have hwl := Nat.lt_of_le_of_lt (whole_len 5 [a, b]) hsum; have hpl := Nat.lt_of_le_of_lt (parts_len 5 [a, b]) hsum
    have KN := Lib.hid fun W (hb : Below w.heap.size w W) => normals_any (k := 5) IH.out (.inr rfl) ok [a, b] al cap W (fun x hx => by
      simp at hx
      rcases hx with rfl | rfl
      · exact ⟨by omega, hw.1⟩
      · exact ⟨by omega, hw.2⟩) (by simp) (by omega) (hrow.below hb)
    have KS := Lib.hid fun ok al cap W (h : RowAt ok W al (L.map Ex.rx)) => nmAlt_any ok L al cap W (by have := parts_len 5 [a, b]; rw [hL, List.length_map]; omega) (by rw [hL]; omega) h; rw [← hL] at KN; have hnode := alt_node hw; rw [← hL] at hnode; rw [hnode] at KS; rw [show ([a, b] : List Ex).length = 2 from rfl, show (((5 : Nat) : Int)) = 5 from rfl] at KN; rw [show ([a.rx, b.rx] : List Rx).length = 2 from rfl, show (((5 : Nat) : Int)) = 5 from rfl] at B ⊢; generalize nfE (.alt a b) = res at *; clear h0 hL hnode hwl hpl hsum k4a k5a k6a hw hrow hcap hsok e2 IH hk256; go_enter Tryz.func44, Tryz.ntmps44; go_wp2_with fail; refine (KN.out _ B.out.2.2).mono ?_; rintro x w1 ⟨al2, cap2, rfl, hcp, hr, hb1⟩; have B1 := Lib.hid (B.out.go hb1); have KS1 := Lib.hid (KS.out _ al2 cap2 w1 hr); clear hcp hr hb1 B KN KS; go_wp2_with fail; refine KS1.out.mono ?_; rintro x w2 ⟨v1, rfl, hv1, hb2⟩; obtain ⟨p0, p1, p2, p3, p4, pl, pn, pc, rfl⟩ := cells_re hv1; have B2 := Lib.hid (B1.out.go hb2); have HV := Lib.hid hv1; have hlt := (Array.getElem?_eq_some_iff.1 B1.out.2.1).1; clear hv1 hb2 KS1 B1; obtain ⟨c0, c1, c2, c3, c4, c5, f0, f1, f2, f3, f4, f5⟩ := cellsR B2.out.2.1; go_wp2; exact ret_new B2.out.2.1 HV.out hlt B2.out.2.2 (by omega) Tryz.results44 rfl rfl
  | star a =>
    simp only [Ex.rx] at hsa; injection hsa with e1 e2 e3; subst e1; subst e3; simp only [Ex.size] at hs; obtain ⟨bk, off, rfl, hlt0, hn0⟩ := hrow.kid (i := 0) (by simp); simp only [List.getElem_cons_zero, Nat.zero_mul, Nat.add_zero] at hn0; obtain ⟨kc, ⟨ca, cb, cc, cd⟩, ksc, hsc⟩ := rx_form a; rw [hsc] at hn0; obtain ⟨al0, cap0, i6, hrc⟩ := hn0.read; simp only at i6 hrc; rw [← hsc] at hrc; have I6 := Lib.hid i6; have KN := Lib.hid fun W (hb : Below w.heap.size w W) => IH.out a (by omega) hw ok _ W (hrc.below hb); have KS := Lib.hid fun ok v W (h : ReAt ok W v (nfE a).rx) => nstar_any (nfE a) ok v W h; rw [show nfE (.star a) = starE (nfE a) from rfl]; generalize starE (nfE a) = res at *; generalize nfE a = na at *; rw [show ([a.rx] : List Rx).length = 1 from rfl, show (((6 : Nat) : Int)) = 6 from rfl] at B ⊢; (have hcap1 : 1 ≤ cap := by simpa using hcap); obtain ⟨c0, c1, c2, c3, c4, c5⟩ := six_keep hlt0 I6.out B.out.2.2; clear h0 k4a k5a k6a hw hrow hcap hsok e2 IH hk256 hrc hsc hn0 i6; go_enter Tryz.func44, Tryz.ntmps44; go_wp2_with fail; refine (KN.out _ B.out.2.2).mono ?_; rintro x w1 ⟨v1, rfl, hv1, hb1⟩; have B1 := Lib.hid (B.out.go hb1); have KS1 := Lib.hid (KS.out _ v1 w1 hv1); have hs1 := hb1.size; clear hv1 hb1 KN KS c0 c1 c2 c3 c4 c5; go_wp2_with fail; refine KS1.out.mono ?_; rintro x w2 ⟨v2, rfl, hv2, hb2⟩; obtain ⟨p0, p1, p2, p3, p4, pl, pn, pc, rfl⟩ := cells_re hv2; have B2 := Lib.hid (B1.out.go hb2)
    have HV := Lib.hid (hv2.imp (ok' := New (w.heap.size + 2)) fun b _ h => by
      unfold New at *
      rcases h with h | h
      · simpa using h
      · simp at hs1; omega)
    clear hv2 hb2 KS1 B1 B hs1; obtain ⟨c0, c1, c2, c3, c4, c5, f0, f1, f2, f3, f4, f5⟩ := cellsR B2.out.2.1; go_wp2; exact ret_new B2.out.2.1 HV.out (by omega) B2.out.2.2 (by omega) Tryz.results44 rfl rfl
  | empty => exact normal_leaf rfl rfl rfl _ w h0
  | eps => exact normal_leaf rfl rfl rfl _ w h0
  | cls s => exact normal_leaf rfl rfl rfl _ w h0
theorem normal_all : ∀ N, N ≤ 800000 → NrmC N
  | 0, _ => fun e h => absurd h (by have := e.size_pos; omega)
  | N + 1, h => normal_step (by omega) (normal_all N (by omega))
theorem normal_any {e : Ex} (hs : e.size ≤ 800000) (hw : e.Wf) {ok : Nat → Prop} (v : Value) (w : World) (h : ReAt ok w v e.rx) : Calls Tryz.prog 44 #[v] w (NewPost (nfE e).rx w) :=
  normal_all 800000 (Nat.le_refl _) e hs hw ok v w h
open Go.RowKit
theorem normX_no {r : Rx} (h : mayR r = false) : normX r = .node 0 Ws.nil [] := by unfold normX; rw [exX_no h]; rfl
theorem normX_of {e : Ex} (we : e.Wf) (hs : e.size ≤ 2000) : normX e.rx = (nfE e).rx := by unfold normX; rw [exX_of we hs]; rfl
set_option maxHeartbeats 2000000 in
set_option maxRecDepth 100000 in
theorem normL_any {ok : Nat → Prop} (r : Rx) (v : Value) (w : World) (h : ReAt ok w v r) :
    Calls Tryz.prog 28 #[v] w (NewPost (normX r) w) := by
  obtain ⟨x0, x1, x2, x3, x4, xl, xn, xc, rfl⟩ := cells_re h; have B := Lib.hid (Bn1.new w (.cells #[.int .u8 x0, .int .u64 x1, .int .u64 x2, .int .u64 x3, .int .u64 x4, .slice xl xn xc] 39)); have HB2 := Lib.hid (al2 w (.cells #[.int .u8 x0, .int .u64 x1, .int .u64 x2, .int .u64 x3, .int .u64 x4, .slice xl xn xc] 39) zR); have hr := row_new (h.below HB2.out); (have hsz : ((w.alloc (.cells #[.int .u8 x0, .int .u64 x1, .int .u64 x2, .int .u64 x3, .int .u64 x4, .slice xl xn xc] 39)).alloc zR).heap.size = w.heap.size + 2 := by simp); rw [hsz] at hr; have HR := Lib.hid hr; have KM := Lib.hid fun (al : Option Addr) (W : World) (h : RowAt (fun _ => True) W al [r]) => mayX [r] al 1 W (by simp) h; rw [show [r].length = 1 from rfl, show [r].all mayR = mayR r from by simp] at KM; have B3 := Lib.hid (B.out.go ((Below.refl _ _).alloc (Nat.le_refl _) (.cells #[.int .u8 x0, .int .u64 x1, .int .u64 x2, .int .u64 x3, .int .u64 x4, .slice xl xn xc] 39)))
  cases hm : mayR r with
  | false =>
    rw [normX_no hm]; rw [hm] at KM; clear hm h hr hsz B HB2; go_enter Tryz.func28, Tryz.ntmps28; go_wp2_with fail; refine (KM.out _ _ HR.out).mono ?_; rintro e w1 ⟨rfl, hb1⟩; have B1 := Lib.hid (B3.out.go hb1); clear hb1 B3 KM HR; obtain ⟨c0, c1, c2, c3, c4, c5, f0, f1, f2, f3, f4, f5⟩ := cellsR B1.out.2.1; go_wp2; exact ret_re (putR B1.out.2.1 _ _ _ _ _ _) Tryz.results28 rfl rfl ⟨_, rfl, bareAt _ _ 0 Ws.nil (by decide) Ws.nil_ok, putB B1.out.2.2 (by omega) _ _ _ _ _ _⟩
  | true =>
    obtain ⟨e0, he0, we, hs⟩ := may_ex h hm; rw [show normX r = (nfE e0).rx from by rw [← he0]; exact normX_of we hs]; rw [hm] at KM; have KN := Lib.hid fun W (hb : Below w.heap.size w W) => normal_any (e := e0) (by omega) we (.agg #[.int .u8 x0, .int .u64 x1, .int .u64 x2, .int .u64 x3, .int .u64 x4, .slice xl xn xc]) W (by rw [he0]; exact h.below hb); clear hm h he0 hr hsz B HB2; go_enter Tryz.func28, Tryz.ntmps28; go_wp2_with fail; refine (KM.out _ _ HR.out).mono ?_; rintro e w1 ⟨rfl, hb1⟩; have B1 := Lib.hid (B3.out.go hb1); clear hb1 B3 KM HR; obtain ⟨c0, c1, c2, c3, c4, c5, -⟩ := cellsR B1.out.1; go_wp2_with fail; refine (KN.out _ B1.out.2.2).mono ?_; rintro e w2 ⟨v2, rfl, hv2, hb2⟩; obtain ⟨q0, q1, q2, q3, q4, ql, qn, qc, rfl⟩ := cells_re hv2; have B2 := Lib.hid (B1.out.go hb2); have HV := Lib.hid hv2; have hlt := (Array.getElem?_eq_some_iff.1 B1.out.2.1).1; clear hv2 hb2 B1 c0 c1 c2 c3 c4 c5; obtain ⟨c0, c1, c2, c3, c4, c5, f0, f1, f2, f3, f4, f5⟩ := cellsR B2.out.2.1; go_wp2; exact ret_new B2.out.2.1 HV.out hlt B2.out.2.2 (by omega) Tryz.results28 rfl rfl
open Go.RowKit
theorem has_ne {s : Ws} {n : Nat} (h : s.has n = true) : s ≠ Ws.nil := fun e => by rw [e, Ws.has_nil] at h; cases h
open Go.RowKit
theorem may_wf {e : Ex} (we : e.Wf) (hs : e.size ≤ 2000) : mayR e.rx = true := by
  unfold mayR mayN; rw [good_ex e we, Ex.size_rx, decide_eq_true hs]; rfl
open Go.RowKit
def MemPost (At : (Nat → Prop) → World → Value → MM → Prop) (X : Nat → Prop) (p : Value) (r : MM × Int × Bool) (w : World) (e : Ending) (w' : World) : Prop :=
  e = .returned (.tuple #[.int .i64 r.2.1, .bool r.2.2]) ∧ ∃ X', At X' w' p r.1 ∧ (∀ x, X' x → X x ∨ w.heap.size ≤ x) ∧ Fm X w w'
def TellPost (r : Rx × Bool) (w : World) (e : Ending) (w' : World) : Prop := ∃ v, e = .returned (.tuple #[v, .bool r.2]) ∧ ReAt (New w.heap.size) w' v r.1 ∧ Below w.heap.size w w'
structure MemoI (T : World → Prop) where
  At : (Nat → Prop) → World → Value → MM → Prop
  lt : ∀ {X : Nat → Prop} {w : World} {p : Value} {m : MM}, At X w p m → ∀ x, X x → x < w.heap.size
  keep : ∀ {X : Nat → Prop} {w w' : World} {p : Value} {m : MM}, At X w p m → w.heap.size ≤ w'.heap.size → (∀ x, X x → w'.heap[x]? = w.heap[x]?) → At X w' p m
  new : ∀ (room : Int) (w : World), Calls Tryz.prog 9 #[.int .i64 room] w fun e w' => ∃ p X, e = .returned p ∧ At X w' p (MM.new room) ∧ (∀ x, X x → w.heap.size ≤ x) ∧ Below w.heap.size w w'
  find : ∀ (ok : Nat → Prop) (m : MM) (r : Rx) (v p : Value) (X : Nat → Prop) (w : World), m.Ok 100000 → T w → At X w p m → ReAt ok w v r → (∀ b, ok b → ¬ X b) → Calls Tryz.prog 11 #[p, v] w (MemPost At X p (m.find r) w)
  put : ∀ (ok : Nat → Prop) (m : MM) (l : List Rx) (al : Option Addr) (cap : Nat) (p : Value) (X : Nat → Prop) (w : World), m.Ok 100000 → T w → At X w p m → l.length ≤ 20 → RowAt ok w al l → (∀ b, ok b → ¬ X b) → Calls Tryz.prog 13 #[p, .slice al l.length cap] w (MemPost At X p (m.puts l) w)
  tell : ∀ (m : MM) (i : Int) (p : Value) (X : Nat → Prop) (w : World), m.Ok 100000 → At X w p m → Calls Tryz.prog 15 #[p, .int .i64 i] w (TellPost (m.at i) w)
  len : ∀ (m : MM) (p : Value) (X : Nat → Prop) (w : World), m.Ok 100000 → At X w p m → Calls Tryz.prog 18 #[p] w fun e w' => e = .returned (.int .i64 (m.l.length : Int)) ∧ Below w.heap.size w w'
  room : ∀ (m : MM) (p : Value) (X : Nat → Prop) (w : World), m.Ok 100000 → At X w p m → Calls Tryz.prog 19 #[p] w fun e w' => e = .returned (.int .i64 ((m.most : Int) - (m.l.length : Int))) ∧ Below w.heap.size w w'
  asked : ∀ (m : MM) (p : Value) (X : Nat → Prop) (w : World), m.Ok 100000 → At X w p m → Calls Tryz.prog 16 #[p] w fun e w' => e = .returned (.tuple #[.int .i64 (m.all : Int), .int .i64 (m.met : Int)]) ∧ Below w.heap.size w w'
  find0 : ∀ (ok : Nat → Prop) (r : Rx) (v : Value) (w : World), ReAt ok w v r → Calls Tryz.prog 11 #[.pointer none, v] w fun e w' => e = .returned (.tuple #[.int .i64 0, .bool false]) ∧ Below w.heap.size w w'
  put0 : ∀ (ok : Nat → Prop) (l : List Rx) (al : Option Addr) (cap : Nat) (w : World), l.length ≤ 20 → RowAt ok w al l → Calls Tryz.prog 13 #[.pointer none, .slice al l.length cap] w fun e w' => e = .returned (.tuple #[.int .i64 0, .bool false]) ∧ Below w.heap.size w w'
  tell0 : ∀ (i : Int) (w : World), Calls Tryz.prog 15 #[.pointer none, .int .i64 i] w (TellPost (.node 0 Ws.nil [], false) w)
  len0 : ∀ w : World, Calls Tryz.prog 18 #[.pointer none] w fun e w' => e = .returned (.int .i64 0) ∧ Below w.heap.size w w'
  room0 : ∀ w : World, Calls Tryz.prog 19 #[.pointer none] w fun e w' => e = .returned (.int .i64 0) ∧ Below w.heap.size w w'
  asked0 : ∀ w : World, Calls Tryz.prog 16 #[.pointer none] w fun e w' => e = .returned (.tuple #[.int .i64 0, .int .i64 0]) ∧ Below w.heap.size w w'
def cAB : Ws := (Ws.nil.join (rngW 97 97)).join (rngW 98 98)
def exAB : Ex := .alt (.cls (rngW 97 97)) (.cls (rngW 98 98))
theorem px_ab : PX .alt [97, 124, 98] (.ok exAB []) :=
  PX.altMore (PX.rowOne (ex_atom 97 _ rfl (by decide) (by decide) (by decide)) rfl rfl) (PX.altOne (PX.rowOne (ex_atom 98 _ rfl (by decide) (by decide) (by decide)) rfl rfl) (notAt_nil _))
theorem ofS_ab : ofS cAB = .cls cAB := by kernel_rfl
theorem px_cab : PX .alt [91, 97, 98, 93] (.ok (.cls cAB) []) := by
  have h : PCls Ws.nil [97, 98, 93] (.ok (ofS cAB) []) := PCls.one (b := 97) (l1 := [98, 93]) (notAt_cons (by decide)) rfl (notAt_cons (by decide)) (PCls.one (b := 98) (l1 := [93]) (notAt_cons (by decide)) rfl (notAt_cons (by decide)) (PCls.done _ _)); rw [ofS_ab] at h; exact PX.altOne (PX.rowOne (PX.cls h) rfl rfl) (notAt_nil _)
theorem rd_ab : rdOf ⟨#[97, 124, 98]⟩ = .ok exAB := by
  rw [rdOf_px (s := ⟨#[97, 124, 98]⟩) px_ab]; unfold topR; rw [if_neg (by decide)]; simp only [if_true]; rw [if_pos (by decide)]
theorem rd_cab : rdOf ⟨#[91, 97, 98, 93]⟩ = .ok (.cls cAB) := by
  rw [rdOf_px (s := ⟨#[91, 97, 98, 93]⟩) px_cab]; unfold topR; rw [if_neg (by decide)]; simp only [if_true]; rw [if_pos (by decide)]
theorem wf_ab : exAB.Wf := ⟨⟨ofN_ok _, has_ne (n := 97) (by decide +kernel)⟩, ⟨ofN_ok _, has_ne (n := 98) (by decide +kernel)⟩⟩
theorem wf_cab : (Ex.cls cAB).Wf := ⟨⟨by decide +kernel, by decide +kernel, by decide +kernel, by decide +kernel⟩, has_ne (n := 97) (by decide +kernel)⟩
theorem nf_ab : nfE exAB = .cls cAB := by kernel_rfl
theorem nf_cab : nfE (.cls cAB) = .cls cAB := by kernel_rfl
theorem puts_ab : (MM.new 5).puts [exAB.rx, (Ex.cls cAB).rx] = (⟨5, [(Ex.cls cAB).rx], 2, 1⟩, 0, true) := by
  (have h1 : normX exAB.rx = (Ex.cls cAB).rx := by rw [normX_of wf_ab (by decide), nf_ab]); (have h2 : normX (Ex.cls cAB).rx = (Ex.cls cAB).rx := by rw [normX_of wf_cab (by decide), nf_cab])
  have h3 : (MM.new 5).put exAB.rx = (⟨5, [(Ex.cls cAB).rx], 1, 0⟩, 0, true) := by
    unfold MM.put; rw [may_wf wf_ab (by decide), if_pos rfl, h1, show (MM.new 5).l = [] from rfl, placeI_not (by simp), if_neg (by decide), if_neg (by decide)]
    rfl
  have h4 : MM.put ⟨5, [(Ex.cls cAB).rx], 1, 0⟩ (Ex.cls cAB).rx = (⟨5, [(Ex.cls cAB).rx], 2, 1⟩, 0, true) := by
    unfold MM.put; rw [may_wf wf_cab (by decide), if_pos rfl, h2, show placeI [(Ex.cls cAB).rx] (Ex.cls cAB).rx = ((0 : Nat) : Int) from placeI_of (i := 0) rfl (fun j hj => absurd hj (Nat.not_lt_zero _)), if_pos (by decide)]
    rfl
  unfold MM.puts; rw [List.foldl_cons, List.foldl_cons, List.foldl_nil]; simp only [h3, h4]
open Go.RowKit
def Awake11C (T : World → Prop) : Prop := ∀ (w : World), T w → Calls Tryz.prog 8 #[] w fun x w' => x = .returned (.bool true) ∧ Below w.heap.size w w'
set_option maxHeartbeats 4000000 in
set_option maxRecDepth 100000 in
theorem awake11_any (hRead : ReadC) {T : World → Prop} (hTm : ∀ w w', T w → Below w.heap.size w w' → T w') (I : MemoI T) : Awake11C T := by
  intro w hT; have K1 := Lib.hid (hRead ⟨#[97, 124, 98]⟩ w (by decide)); rw [rd_ab] at K1; have K2 := Lib.hid fun W => hRead ⟨#[91, 97, 98, 93]⟩ W (by decide); rw [rd_cab] at K2; have KN := Lib.hid fun W => I.new 5 W
  have KP := Lib.hid fun (p : Value) (X : Nat → Prop) (g : Nat) (W : World) (hb : Below w.heap.size w W) (ha : I.At X W p (MM.new 5)) (hr : RowAt (fun b => ¬ X b) W (some ⟨g, 0, none⟩) [exAB.rx, (Ex.cls cAB).rx]) =>
    I.put (fun b => ¬ X b) (MM.new 5) [exAB.rx, (Ex.cls cAB).rx] (some ⟨g, 0, none⟩) 2 p X W ((MM.new_ok 5).mono (by omega)) (hTm _ _ hT hb) ha (by simp) hr (fun _ h => h)
  rw [puts_ab, show [exAB.rx, (Ex.cls cAB).rx].length = 2 from rfl] at KP; have KL := Lib.hid fun (p : Value) (X : Nat → Prop) (W : World) (ha : I.At X W p ⟨5, [(Ex.cls cAB).rx], 2, 1⟩) => I.len _ p X W ⟨by decide, by simp, by simp, by simp, fun x hx => ⟨exAB.rx, may_wf wf_ab (by decide), by simp at hx; rw [hx, normX_of wf_ab (by decide), nf_ab]⟩, by simp⟩ ha; rw [show ((([(Ex.cls cAB).rx] : List Rx).length : Nat) : Int) = 1 from rfl] at KL; obtain ⟨ca, hca⟩ : ∃ x, x = exAB.rx := ⟨_, rfl⟩; obtain ⟨cb, hcb⟩ : ∃ x, x = (Ex.cls cAB).rx := ⟨_, rfl⟩; rw [← hca, ← hcb] at KP; rw [← hcb] at KL; have HCA := Lib.hid hca; have HCB := Lib.hid hcb; clear hca hcb hRead hT hTm; go_enter Tryz.func8, Tryz.ntmps8; go_wp2_with fail; refine K1.out.mono ?_; rintro e w1 ⟨hb1, v, rfl, hv⟩; rw [← HCA.out] at hv; obtain ⟨x0, x1, x2, x3, x4, xl, xn, xc, rfl⟩ := cells_re hv; have hal := bel_al w1 (.cells #[.int .u8 x0, .int .u64 x1, .int .u64 x2, .int .u64 x3, .int .u64 x4, .slice xl xn xc] 39); have HX := Lib.hid (blk_new w1 (.cells #[.int .u8 x0, .int .u64 x1, .int .u64 x2, .int .u64 x3, .int .u64 x4, .slice xl xn xc] 39)); have HV := Lib.hid (hv.below hal); have HB := Lib.hid (hb1.trans (hal.mono hb1.size)); clear hal hb1 hv K1; go_wp2_with fail; refine (K2.out _).mono ?_; rintro e w2 ⟨hb2, v2, rfl, hv2⟩; rw [← HCB.out] at hv2; obtain ⟨y0, y1, y2, y3, y4, yl, yn, yc, rfl⟩ := cells_re hv2; have hal := bel_al w2 (.cells #[.int .u8 y0, .int .u64 y1, .int .u64 y2, .int .u64 y3, .int .u64 y4, .slice yl yn yc] 39); have hb2a := hb2.trans (hal.mono hb2.size); have HX2 := Lib.hid ((hb2a.block _ (Array.getElem?_eq_some_iff.1 HX.out).1).trans HX.out); have HY2 := Lib.hid (blk_new w2 (.cells #[.int .u8 y0, .int .u64 y1, .int .u64 y2, .int .u64 y3, .int .u64 y4, .slice yl yn yc] 39)); have HV2 := Lib.hid (HV.out.below hb2a); have HU2 := Lib.hid (hv2.below hal); have HB2 := Lib.hid (HB.out.trans (hb2a.mono HB.out.size)); clear hal hb2 hb2a hv2 HV HB HX K2; go_wp2_with fail; refine (KN.out _).mono ?_; rintro e w3 ⟨p, X, rfl, ha, hX, hb3⟩; obtain ⟨c0, c1, c2, c3, c4, c5, -⟩ := cellsR ((hb3.block _ (Array.getElem?_eq_some_iff.1 HX2.out).1).trans HX2.out); obtain ⟨d0, d1, d2, d3, d4, d5, -⟩ := cellsR ((hb3.block _ (Array.getElem?_eq_some_iff.1 HY2.out).1).trans HY2.out); have hHX := hb3.size; have HA := Lib.hid ha; have HXX := Lib.hid hX; have HB3 := Lib.hid (HB2.out.trans (hb3.mono HB2.out.size)); have HV3 := Lib.hid (show ReAt (fun b => ¬ X b) w3 _ ca from (HV2.out.go (ok' := fun b => b < (w2.alloc (.cells #[.int .u8 y0, .int .u64 y1, .int .u64 y2, .int .u64 y3, .int .u64 y4, .slice yl yn yc] 39)).heap.size) ⟨hb3.size, fun b h1 _ => ⟨h1, hb3.block b h1⟩⟩).imp fun b _ h hx => by have := hX b hx; omega); have HU3 := Lib.hid (show ReAt (fun b => ¬ X b) w3 _ cb from (HU2.out.go (ok' := fun b => b < (w2.alloc (.cells #[.int .u8 y0, .int .u64 y1, .int .u64 y2, .int .u64 y3, .int .u64 y4, .slice yl yn yc] 39)).heap.size) ⟨hb3.size, fun b h1 _ => ⟨h1, hb3.block b h1⟩⟩).imp fun b _ h hx => by have := hX b hx; omega); clear ha hX hb3 HV2 HU2 HX2 HY2 KN hHX; go_wp2_with fail; clear c0 c1 c2 c3 c4 c5 d0 d1 d2 d3 d4 d5; have hal := bel_al w3 (.cells #[.int .u8 x0, .int .u64 x1, .int .u64 x2, .int .u64 x3, .int .u64 x4, .slice xl xn xc, .int .u8 y0, .int .u64 y1, .int .u64 y2, .int .u64 y3, .int .u64 y4, .slice yl yn yc] 39); refine (KP.out p X _ _ (HB3.out.trans (hal.mono HB3.out.size)) (I.keep HA.out hal.size fun x hx => hal.block x (I.lt HA.out x hx)) (row_two (blk_new w3 _) (fun hx => absurd (I.lt HA.out _ hx) (Nat.lt_irrefl _)) (HV3.out.below hal) (HU3.out.below hal))).mono ?_; rintro e w4 ⟨rfl, X', ha4, hX4, hf4⟩; have HB4 := Lib.hid ((HB3.out.trans ((hal.mono HB3.out.size))).trans (hf4.to (B := w.heap.size) (Nat.le_trans HB3.out.size hal.size) fun x hx => Nat.le_trans HB2.out.size (HXX.out x hx))); have K4 := Lib.hid (KL.out p X' w4 ha4); clear hal ha4 hX4 hf4 HA HXX HV3 HU3 KP KL HB3 HB2; go_wp2_with fail; refine K4.out.mono ?_; rintro e w5 ⟨rfl, hb5⟩; have HB5 := Lib.hid (HB4.out.trans (hb5.mono HB4.out.size))
  clear hb5 K4 HB4; go_wp2; go_ret; exact ⟨rfl, HB5.out⟩
open Go.RowKit
theorem NodeAt.opq {ok : Nat → Prop} {w : World} {b off : Nat} {r : Rx} (h : NodeAt ok w b off r) : ∃ (k a1 a2 a3 a4 : Int) (al : Option Addr) (n cap : Nat), (w.cell? ⟨b, off, none⟩ = some (.int .u8 k) ∧ w.cell? ⟨b, off + 1, none⟩ = some (.int .u64 a1) ∧ w.cell? ⟨b, off + 2, none⟩ = some (.int .u64 a2) ∧ w.cell? ⟨b, off + 3, none⟩ = some (.int .u64 a3) ∧ w.cell? ⟨b, off + 4, none⟩ = some (.int .u64 a4) ∧ w.cell? ⟨b, off + 5, none⟩ = some (.slice al n cap)) ∧ ReAt ok w (.agg #[.int .u8 k, .int .u64 a1, .int .u64 a2, .int .u64 a3, .int .u64 a4, .slice al n cap]) r := by
  obtain ⟨k, ⟨a1, a2, a3, a4⟩, ks⟩ := r; obtain ⟨al, cap, hc, hr⟩ := h.read; exact ⟨_, _, _, _, _, al, _, cap, hc, hr⟩
structure MSt {T : World → Prop} (I : MemoI T) (w : World) (p : Value) (X : Nat → Prop) (m : MM) (W : World) : Prop where
  at_ : I.At X W p m
  new : ∀ x, X x → w.heap.size ≤ x
  bel : Below w.heap.size w W
variable {T : World → Prop} {I : MemoI T} {w : World} {p : Value} {X : Nat → Prop} {m : MM} {W W' : World}
theorem MSt.below (h : MSt I w p X m W) (hb : Below W.heap.size W W') : MSt I w p X m W' :=
  ⟨I.keep h.at_ hb.size fun x hx => hb.block x (I.lt h.at_ x hx), h.new, h.bel.trans (hb.mono h.bel.size)⟩
theorem MSt.post (h : MSt I w p X m W) {r : MM × Int × Bool} {e : Ending} (hp : MemPost I.At X p r W e W') : e = .returned (.tuple #[.int .i64 r.2.1, .bool r.2.2]) ∧ ∃ X', MSt I w p X' r.1 W' ∧ (∀ x, X' x → X x ∨ W.heap.size ≤ x) ∧ Fm X W W' := by
  obtain ⟨h1, X', h2, h3, h4⟩ := hp; exact ⟨h1, X', ⟨h2, fun x hx => Or.elim (h3 x hx) (h.new x) fun g => Nat.le_trans h.bel.size g, h.bel.trans (h4.to h.bel.size h.new)⟩, h3, h4⟩
theorem MSt.not (h : MSt I w p X m W) {b : Nat} (hb : b < w.heap.size) : ¬ X b := fun hx => by have := h.new b hx; omega
open Go.RowKit
structure PSt {T : World → Prop} (I : MemoI T) (w : World) (p : Value) (g8 : Nat) (X : Nat → Prop) (ma mb : MM) (W : World) : Prop where
  st : MSt I w p X ma W
  g : ¬ X g8 ∧ w.heap.size ≤ g8
  ref : ∃ al cap, W.heap[g8]? = some (.cells #[.int .i64 (mb.most : Int), .slice al mb.l.length cap, .int .i64 (mb.all : Int), .int .i64 (mb.met : Int)] 29) ∧ mb.l.length ≤ cap ∧ RowAt (fun b => ¬ X b ∧ b ≠ g8) W al mb.l
section
variable {T : World → Prop} {I : MemoI T} {w : World} {p : Value} {g8 : Nat} {X : Nat → Prop} {ma mb : MM} {W W' : World}
theorem PSt.below (h : PSt I w p g8 X ma mb W) (hb : Below W.heap.size W W') : PSt I w p g8 X ma mb W' := by
  obtain ⟨al, cap, h1, h2, h3⟩ := h.ref; exact ⟨h.st.below hb, h.g, al, cap, (hb.block _ (Array.getElem?_eq_some_iff.1 h1).1).trans h1, h2, h3.below hb⟩
theorem PSt.post (h : PSt I w p g8 X ma mb W) {r : MM × Int × Bool} {e : Ending} (hp : MemPost I.At X p r W e W') : e = .returned (.tuple #[.int .i64 r.2.1, .bool r.2.2]) ∧ ∃ X', PSt I w p g8 X' r.1 mb W' := by
  obtain ⟨h1, X', h2, h3, h4⟩ := h.st.post hp; obtain ⟨al, cap, r1, r2, r3⟩ := h.ref; have hg := (Array.getElem?_eq_some_iff.1 r1).1; have hX : ∀ b, b < W.heap.size → ¬ X b → ¬ X' b := fun b hl hb hx => (h3 b hx).elim hb fun h => absurd hl (Nat.not_lt.2 h); exact ⟨h1, X', h2, ⟨hX g8 hg h.g.1, h.g.2⟩, al, cap, (h4.block g8 hg h.g.1).trans r1, r2, r3.go ⟨h4.size, fun b hl hb => ⟨⟨hX b hl hb.1, hb.2⟩, h4.block b hl hb.1⟩⟩⟩
def FmV (P : Nat → Prop) (F : MM × Int × Bool) (x : Value) (w : World) : Prop := ∃ (al : Option Addr) (cap : Nat), x = .tuple #[.agg #[.int .i64 (F.1.most : Int), .slice al F.1.l.length cap, .int .i64 (F.1.all : Int), .int .i64 (F.1.met : Int)], .int .i64 F.2.1, .bool F.2.2] ∧ F.1.l.length ≤ cap ∧ RowAt P w al F.1.l
def SP.fm11 (P : Nat → Prop) (F : MM × Int × Bool) : SP := ⟨FmV P F, fun _ _ _ ⟨al, cap, h1, h2, h3⟩ hb => ⟨al, cap, h1, h2, h3.below hb⟩⟩
def MvV (P : Nat → Prop) (m : MM) (x : Value) (w : World) : Prop := ∃ (al : Option Addr) (cap : Nat), x = .agg #[.int .i64 (m.most : Int), .slice al m.l.length cap, .int .i64 (m.all : Int), .int .i64 (m.met : Int)] ∧ m.l.length ≤ cap ∧ RowAt P w al m.l
def SP.mv11 (P : Nat → Prop) (m : MM) : SP := ⟨MvV P m, fun _ _ _ ⟨al, cap, h1, h2, h3⟩ hb => ⟨al, cap, h1, h2, h3.below hb⟩⟩
def SP.vm11 (B : Nat) : SP := ⟨fun x w => ∃ g, x = .pointer (some ⟨g, 0, none⟩) ∧ B ≤ g ∧ g < w.heap.size ∧ w.heap[g]? = some (.cells #[.int .i64 0, .slice none 0 0, .int .i64 0, .int .i64 0] 29), fun _ _ _ ⟨g, h1, h2, h3, h4⟩ hb => ⟨g, h1, h2, Nat.lt_of_lt_of_le h3 hb.size, (hb.block _ h3).trans h4⟩⟩
def AwayP (X : Nat → Prop) (g8 n : Nat) (b : Nat) : Prop := (¬ X b ∧ b ≠ g8) ∨ n ≤ b
theorem fm_of {F : MM × Int × Bool} {n : Nat} {x w2 : World} {e : Ending} (hn : n ≤ x.heap.size) (h : FindPost (fun b => ¬ X b ∧ b ≠ g8) F x e w2) : ∃ v, e = .returned v ∧ FmV (AwayP X g8 n) F v w2 ∧ Below x.heap.size x w2 := by
  obtain ⟨v, h1, ⟨al, cap, rfl, h2, h3⟩, h4⟩ := h; refine ⟨_, h1, ⟨al, cap, rfl, h2, h3.imp fun b _ hb => ?_⟩, h4⟩
  rcases hb with hb | hb
  · exact .inl hb
  · exact .inr (Nat.le_trans hn hb)
theorem PSt.put (h : PSt I w p g8 X ma mb W) (hb : Below W.heap.size W W') {m : MM} {al : Option Addr} {cap : Nat} (hc : m.l.length ≤ cap) (hR : RowAt (AwayP X g8 W.heap.size) W' al m.l) :
    PSt I w p g8 X ma m (putM4 W' g8 (.int .i64 (m.most : Int)) (.slice al m.l.length cap) (.int .i64 (m.all : Int)) (.int .i64 (m.met : Int))) := by
  obtain ⟨al0, cap0, r1, _, _⟩ := h.ref; have hg := (Array.getElem?_eq_some_iff.1 r1).1; have hX : ∀ b, X b → b < W.heap.size := I.lt h.st.at_; have r1' := (hb.block _ hg).trans r1; have hne : ∀ b, b ≠ g8 → (putM4 W' g8 (.int .i64 (m.most : Int)) (.slice al m.l.length cap) (.int .i64 (m.all : Int)) (.int .i64 (m.met : Int))).heap[b]? = W'.heap[b]? := fun b hb => putM4_ne hb _ _ _ _; (have hsz : (putM4 W' g8 (.int .i64 (m.most : Int)) (.slice al m.l.length cap) (.int .i64 (m.all : Int)) (.int .i64 (m.met : Int))).heap.size = W'.heap.size := by simp [putM4, World.setCell]); have hb2 := h.st.below hb; refine ⟨⟨I.keep hb2.at_ (by rw [hsz]; exact Nat.le_refl _) fun x hx => hne x fun e => h.g.1 (e ▸ hx), hb2.new, belM4 hb2.bel h.g.2 _ _ _ _⟩, h.g, al, cap, putM4_at r1' _ _ _ _, hc, hR.go ⟨by rw [hsz]; exact Nat.le_refl _, fun b _ hbb => ?_⟩⟩
  rcases hbb with hbb | hbb
  · exact ⟨hbb, hne b hbb.2⟩
  · (have h1 : b ≠ g8 := fun e => by omega); exact ⟨⟨fun hx => absurd (hX b hx) (Nat.not_lt.2 hbb), h1⟩, hne b h1⟩
end
def Big (w : World) (b : Nat) : Prop := ∃ o v, 5 ≤ o ∧ w.cell? ⟨b, o, none⟩ = some v
theorem node_big {ok : Nat → Prop} {w : World} {b off : Nat} {r : Rx} (h : NodeAt ok w b off r) : Big w b := by
  obtain ⟨k, s, ks⟩ := r; unfold NodeAt at h; obtain ⟨_, _, _, al, cap, c5, _⟩ := h; exact ⟨off + 5, _, by omega, c5⟩
mutual
theorem NodeAt.big {ok : Nat → Prop} {w : World} : ∀ (r : Rx) {b off : Nat}, NodeAt ok w b off r → NodeAt (fun b => ok b ∧ Big w b) w b off r
  | .node k s ks, b, off, h => by
    unfold NodeAt at h ⊢; obtain ⟨h0, hs, hc, al, cap, c5, h1, h2, h3⟩ := h; refine ⟨h0, hs, hc, al, cap, c5, h1, h2, ?_⟩
    rcases h3 with h3 | ⟨b', off', e1, e2, e3, e4⟩
    · exact .inl h3
    · have h5 := NodesAt.big ks e4
      cases ks with
      | nil => exact .inl rfl
      | cons r rs => exact .inr ⟨b', off', e1, e2, ⟨e3, by unfold NodesAt at e4; exact node_big e4.1⟩, h5⟩
theorem NodesAt.big {ok : Nat → Prop} {w : World} : ∀ (ks : List Rx) {b off : Nat}, NodesAt ok w b off ks → NodesAt (fun b => ok b ∧ Big w b) w b off ks
  | [], _, _, _ => by unfold NodesAt; trivial
  | r :: rs, b, off, h => by
    unfold NodesAt at h ⊢; exact ⟨NodeAt.big r h.1, NodesAt.big rs h.2⟩
end
theorem RowAt.big {ok : Nat → Prop} {w : World} {al : Option Addr} {ks : List Rx} (h : RowAt ok w al ks) : RowAt (fun b => ok b ∧ Big w b) w al ks := by
  rcases h with h | ⟨b, off, e, hlt, ho, h⟩
  · exact .inl h
  · cases ks with
    | nil => exact .inl rfl
    | cons r rs => exact .inr ⟨b, off, e, hlt, ⟨ho, by unfold NodesAt at h; exact node_big h.1⟩, NodesAt.big (r :: rs) h⟩
theorem row_away {X : Nat → Prop} {g8 n g : Nat} {w : World} {al : Option Addr} {l : List Rx} {x0 x1 x2 x3 : Value} (h : RowAt (AwayP X g8 n) w al l) (hg : w.heap[g]? = some (.cells #[x0, x1, x2, x3] 29)) (y0 y1 y2 y3 : Value) : RowAt (AwayP X g8 n) (putM4 w g y0 y1 y2 y3) al l := by
  refine h.big.go ⟨by simp [putM4, World.setCell], fun b _ hb => ⟨hb.1, putM4_ne (fun e => ?_) _ _ _ _⟩⟩; obtain ⟨o, v, ho, hc⟩ := hb.2; rw [e, Lib.cell_of_heap hg] at hc; rw [Array.getElem?_eq_none (by simpa using (by omega : 4 ≤ o))] at hc
  cases hc
def playsInv {T : World → Prop} (I : MemoI T) (w : World) (p : Value) (g8 : Nat) (m0 : MM) (L : List (Bool × List Rx)) (y9 : Value) (wr : World) : Prop := ∃ i : Nat, i ≤ L.length ∧ y9 = .int .i64 i ∧ ∃ X, PSt I w p g8 X (m0.acts (L.take i)) (m0.acts (L.take i)) wr
def playsF {T : World → Prop} (I : MemoI T) (w : World) (p : Value) (g8 : Nat) (m : MM) (l : List Rx) (y10 : Value) (wr : World) : Prop := ∃ k : Nat, k ≤ l.length ∧ y10 = .int .i64 k ∧ ∃ X, PSt I w p g8 X (m.finds (l.take k)) (m.finds (l.take k)) wr
def playsP {T : World → Prop} (I : MemoI T) (w : World) (p : Value) (g8 : Nat) (ma m : MM) (l : List Rx) (y18 y19 y20 : Value) (wr : World) : Prop := ∃ k : Nat, k ≤ l.length ∧ y20 = .int .i64 k ∧ y18 = .int .i64 (m.puts (l.take k)).2.1 ∧ y19 = .bool (m.puts (l.take k)).2.2 ∧ ∃ X, PSt I w p g8 X ma (m.puts (l.take k)).1 wr
theorem MM.finds_take (m : MM) (l : List Rx) (k : Nat) (h : k < l.length) : m.finds (l.take (k + 1)) = ((m.finds (l.take k)).find l[k]).1 := by rw [List.take_succ_eq_append_getElem h, MM.finds_snoc]
theorem MM.puts_take' (m : MM) (l : List Rx) (k : Nat) (h : k < l.length) : m.puts (l.take (k + 1)) = (m.puts (l.take k)).1.put l[k] := by rw [List.take_succ_eq_append_getElem h, MM.puts_snoc]
theorem MM.acts_take (m : MM) (L : List (Bool × List Rx)) (i : Nat) (h : i < L.length) : m.acts (L.take (i + 1)) = (m.acts (L.take i)).act L[i] := by rw [List.take_succ_eq_append_getElem h, MM.acts_snoc]
theorem MM.Ok.acts {m : MM} {n : Nat} (h : m.Ok n) (L : List (Bool × List Rx)) (hL : ∀ a ∈ L, a.2.length ≤ 10) : (m.acts L).Ok (n + 10 * L.length) := by
  induction L using list_snoc with
  | h0 => exact h
  | h1 L a ih =>
    rw [MM.acts_snoc]; have h1 := ih fun b hb => hL b (by simp [hb]); exact (h1.act a).mono (by have := hL a (by simp); simp; omega)
open Go.RowKit
def plPsi (F : MM × Int × Bool) (j : Nat) (x : Value) : Prop := match j with
  | 10 => ∃ a, x = .tuple #[a, .int .i64 F.2.1, .bool F.2.2]
  | 12 => x = .int .i64 F.2.1
  | 13 => x = .bool F.2.2
  | 16 => x = .int .i64 F.2.1
  | 17 => x = .bool F.2.2
  | _ => True
theorem at_cases (m : MM) (i : Int) : (∃ k : Nat, i = (k : Int) ∧ ∃ h : k < m.l.length, m.at i = (m.l[k], true)) ∨ (¬ (0 ≤ i ∧ i < (m.l.length : Int)) ∧ m.at i = (.node 0 Ws.nil [], false)) := by
  by_cases h : 0 ≤ i ∧ i < (m.l.length : Int)
  · refine .inl ⟨i.toNat, by omega, by omega, ?_⟩; obtain ⟨x, h1, h2⟩ := MM.at_some m h; rw [h2]; have := List.getElem?_eq_getElem (l := m.l) (i := i.toNat) (by omega); rw [this] at h1; injection h1 with h1; rw [h1]
  · exact .inr ⟨h, MM.at_none m h⟩
def plPsi2 (F : MM × Int × Bool) (vals : List (Option Value)) (j : Nat) (x : Value) : Prop := match j with
  | 10 => ∃ a, x = .tuple #[a, .int .i64 F.2.1, .bool F.2.2]
  | _ => pv vals j x
def plG (X : Nat → Prop) (g8 n : Nat) (m : MM) (v : Value) (w : World) : Prop := ∃ (g13 : Nat) (al : Option Addr) (cap : Nat), v = .pointer (some ⟨g13, 0, none⟩) ∧ w.heap[g13]? = some (.cells #[.int .i64 (m.most : Int), .slice al m.l.length cap, .int .i64 (m.all : Int), .int .i64 (m.met : Int)] 29) ∧ m.l.length ≤ cap ∧ RowAt (AwayP X g8 n) w al m.l
set_option maxHeartbeats 16000000 in
set_option maxRecDepth 100000 in
theorem memoPlays_walk (hRead : ReadC) {T : World → Prop} (hTm : ∀ w w', T w → Below w.heap.size w w' → T w') (I : MemoI T) (room : Int) (L : List (Bool × List Rx)) (al : Option Addr) (cap : Nat) (at_ : Int) (w : World) (hT : T w) (hl : L.length < 4398046511104) (hA : ActsAt w al L) (hsz : ∀ a ∈ L, Rx.sizes a.2 ≤ 1048576) :
    Calls Tryz.prog 3 #[.int .i64 room, .slice al L.length cap, .int .i64 at_] w fun e w' => e = .returned (.bool true) ∧ Below w.heap.size w w' := by
  have HAC := Lib.hid hA; have G1 := Lib.hid (great11_any L al cap w hl hA hsz); have KA := Lib.hid fun W (hb : Below w.heap.size w W) => awake11_any hRead hTm I W (hTm _ _ hT hb); have HTT := Lib.hid fun W (hb : Below w.heap.size w W) => hTm _ _ hT hb; have KN := Lib.hid (I.new room); have KN2 := Lib.hid (refNew11 room); clear hRead hTm hT hA hsz; go_enter Tryz.func3, Tryz.ntmps3; go_wp2_with fail; refine G1.out.mono ?_; rintro e w1 ⟨⟨q, rfl, hq⟩, hb⟩; have HB := Lib.hid hb; have HQ := Lib.hid hq; clear hb hq
  cases q with
  | true =>
    go_wp2_with fail; refine (KA.out _ HB.out).mono ?_; rintro e w' ⟨rfl, hb⟩; have HE := Lib.hid (HB.out.trans (hb.mono HB.out.size)); clear hb; go_wp2; go_ret; exact ⟨rfl, HE.out⟩
  | false =>
    have HSM := Lib.hid (HQ.out rfl); clear HQ G1; go_wp2_with fail; refine (KN.out _).mono ?_; rintro e w2 ⟨p, X, rfl, ha, hX, hb⟩; have HST := Lib.hid (show MSt I w p X (MM.new room) w2 from ⟨ha, fun x hx => Nat.le_trans HB.out.size (hX x hx), HB.out.trans (hb.mono HB.out.size)⟩); clear ha hX hb HB KN; go_wp2_with fail; refine (KN2.out _).mono ?_; rintro e w3 ⟨mv, rfl, ⟨ma, mc, rfl, hmc, hmr⟩, hb3⟩; obtain ⟨m0, hm0⟩ : ∃ m, m = MM.new room := ⟨_, rfl⟩; rw [← hm0] at HST hmc hmr ⊢; have HOK0 := Lib.hid (show m0.Ok 0 from by rw [hm0]; exact MM.new_ok room); have hal := bel_al w3 (.cells #[.int .i64 (m0.most : Int), .slice ma m0.l.length mc, .int .i64 (m0.all : Int), .int .i64 (m0.met : Int)] 29); have HS3 := Lib.hid (HST.out.below hb3); have hn3 : ¬ X w3.heap.size := fun hx => absurd (I.lt HS3.out.at_ _ hx) (Nat.lt_irrefl _); have HPS0 := Lib.hid (show PSt I w p w3.heap.size X m0 m0 (w3.alloc (.cells #[.int .i64 (m0.most : Int), .slice ma m0.l.length mc, .int .i64 (m0.all : Int), .int .i64 (m0.met : Int)] 29)) from ⟨HS3.out.below hal, ⟨hn3, HS3.out.bel.size⟩, ma, mc, blk_new w3 _, hmc, (hmr.below hal).imp fun b _ h => h.elim⟩); clear hal hm0 HST hmc hmr hb3 KN2 HS3 hn3; go_wp2_with fail; obtain ⟨g8, hg8⟩ : ∃ g, g = w3.heap.size := ⟨_, rfl⟩; rw [← hg8] at HPS0 ⊢; obtain ⟨w4, hw4⟩ : ∃ x, x = w3.alloc (.cells #[.int .i64 (m0.most : Int), .slice ma m0.l.length mc, .int .i64 (m0.all : Int), .int .i64 (m0.met : Int)] 29) := ⟨_, rfl⟩; rw [← hw4] at HPS0 ⊢; clear hw4 hg8
    go_loopw [9] (fun y wr => playsInv I w p g8 m0 L y wr) (fun y _ => L.length - (intOf y).toNat)
    case atStart => exact ⟨0, Nat.zero_le _, rfl, X, HPS0.out⟩
    case round =>
      obtain ⟨i, hi, rfl, X1, hps⟩ := hrel; have HPS := Lib.hid hps; clear hps HPS0
      by_cases hlt : i < L.length
      · (have q1 : (i : Int) < (L.length : Int) := by omega); obtain ⟨hl10, h60⟩ := HSM.out.2 _ (List.getElem_mem hlt); have hact := fun x (hx : Below w.heap.size w x) => HAC.out.get hx hlt; have hsl := HSM.out.1; have HOK := Lib.hid (show (m0.acts (L.take i)).Ok (10 * i) from (HOK0.out.acts (L.take i) fun a ha => (HSM.out.2 a (List.mem_of_mem_take ha)).1).mono (by simp; omega)); have HNX := Lib.hid (MM.acts_take m0 L i hlt); generalize L[i] = act at *; obtain ⟨fd, l⟩ := act; obtain ⟨sb, so, hab, c0, al1, cap1, c1, hc1, hl1, hR1⟩ := hact w (Below.refl _ _); subst hab; simp only at c0 c1 hc1 hl1 hR1 hl10 h60; have hsb : sb < w.heap.size := block_lt_of_cell c0; have HACT := Lib.hid fun (x : World) (hx : Below w.heap.size w x) => show x.cell? ⟨sb, so + i * 2, none⟩ = some (.bool fd) ∧ x.cell? ⟨sb, so + i * 2 + 1, none⟩ = some (.slice al1 l.length cap1) ∧ RowAt (fun b => b < w.heap.size) x al1 l from ⟨(hx.cell (p := ⟨sb, so + i * 2, none⟩) hsb).trans c0, (hx.cell (p := ⟨sb, so + i * 2 + 1, none⟩) hsb).trans c1, hR1.below hx⟩; have H60 := Lib.hid h60; have Q5 := Lib.hid q1; generalize m0.acts (L.take i) = mi at *; have HR1 := Lib.hid hR1; clear c0 c1 hR1 hact h60; obtain ⟨c0, c1, -⟩ := HACT.out wr HPS.out.st.bel
        cases fd with
        | true =>
          have HNX2 := Lib.hid (show m0.acts (L.take (i + 1)) = mi.finds l from HNX.out); clear HNX; go_wp2_with fail; clear c0 c1
          go_loopw [10] (fun y10 wr2 => playsF I w p g8 mi l y10 wr2) (fun y10 _ => l.length - (intOf y10).toNat)
          case atStart => exact ⟨0, Nat.zero_le _, rfl, X1, by simpa [MM.finds] using HPS.out⟩
          case round =>
            obtain ⟨k, hk, rfl, X2, hps2⟩ := hrel; have HP2 := Lib.hid hps2; obtain ⟨-, a1, hrw⟩ := HACT.out _ hps2.st.bel; clear hps2 HPS
            by_cases hlk : k < l.length
            · (have q2 : (k : Int) < (l.length : Int) := by omega); obtain ⟨b1, o1, hal1, hb1, hok1, hnode⟩ := HR1.out.kidOk hlk; subst hal1; have hr60 := H60.out _ (List.getElem_mem hlk); have HNF := Lib.hid (MM.finds_take mi l k hlk); have hokf := HOK.out.finds (l.take k); have HOKF := Lib.hid (hokf.mono (show 10 * i + (l.take k).length ≤ 100000 from by simp; omega)); generalize mi.finds (l.take k) = m at *; generalize l[k] = r at *; obtain ⟨y0, y1, y2, y3, y4, yl, yn, yc, hcs, hre⟩ := hnode.opq; have HKID := Lib.hid fun x (hx : Below w.heap.size w x) => And.intro (six_keep hb1 hcs hx) (hre.below hx); have Q6 := Lib.hid q2; obtain ⟨c0, c1, c2, c3, c4, c5⟩ := (HKID.out wr HP2.out.st.bel).1; have KF := Lib.hid (I.find (fun b => ¬ X2 b) m r _ p X2 wr HOKF.out (HTT.out _ HP2.out.st.bel) HP2.out.st.at_ ((HKID.out wr HP2.out.st.bel).2.imp fun b _ hb => HP2.out.st.not hb) (fun _ h => h)); have KD0 := Lib.hid fun (X : Nat → Prop) (x : World) (ma : Option Addr) (mc : Nat) (hx : Below w.heap.size w x) (hmc : m.l.length ≤ mc) (hmr : RowAt (fun b => ¬ X b ∧ b ≠ g8) x ma m.l) => refFind11 (ok := fun b => ¬ X b ∧ b ≠ g8) m (.agg #[.int .i64 (m.most : Int), .slice ma m.l.length mc, .int .i64 (m.all : Int), .int .i64 (m.met : Int)]) r _ x (by omega) (Nat.le_trans HOKF.out.len HOKF.out.most) (Nat.le_trans HOKF.out.all (by decide)) HOKF.out.met ⟨ma, mc, rfl, hmc, hmr⟩ (HKID.out x hx).2; generalize m.find r = FF at *; obtain ⟨m2, fn, fq⟩ := FF; simp only at HNF; clear hnode hcs hre hok1 hrw hokf hr60; go_wp2_with fail; refine KF.out.mono ?_; intro e W hp; obtain ⟨rfl, X3, hps3⟩ := HP2.out.post hp; simp only at hps3 ⊢; have HPS3 := Lib.hid hps3; obtain ⟨ma, mc, hblk, hmc, hmr⟩ := hps3.ref; have WB := Lib.hid fun x (hx : Below W.heap.size W x) => (HPS3.out.below hx).st.bel; have CM := Lib.hid fun x (hx : Below W.heap.size W x) => cellsM ((hx.block _ (Array.getElem?_eq_some_iff.1 hblk).1).trans hblk); have KD := Lib.hid fun x (hx : Below W.heap.size W x) => (KD0.out X3 x ma mc (WB.out x hx) hmc (hmr.below hx)).mono fun e w2 h => fm_of hx.size h; clear hp hps3 hblk hmc hmr KD0 KF HP2 c0 c1 c2 c3 c4 c5 a1; go_wp2_with fail; refine wp_region_orderS 15 (fun j => [0, 0, 0, 0, 0, 0, 0, 0, 0, 0, 0, 0, 1, 1, 0, 2, 1, 1].getD j 0) (fun j => ([SP.eq (.agg #[.int .i64 (m.most : Int), .slice ma m.l.length mc, .int .i64 (m.all : Int), .int .i64 (m.met : Int)]), SP.eq (.slice (some ⟨sb, so, none⟩) L.length cap), SP.eq (.int .i64 i), SP.eq (.pointer (some ⟨sb, so + i * 2, none⟩)), SP.eq (.pointer (some ⟨sb, so + i * 2 + 1, none⟩)), SP.eq (.slice (some ⟨b1, o1, none⟩) l.length cap1), SP.eq (.int .i64 k), SP.eq (.pointer (some ⟨b1, o1 + k * 6, none⟩)), SP.eq (.agg #[.int .u8 y0, .int .u64 y1, .int .u64 y2, .int .u64 y3, .int .u64 y4, .slice yl yn yc]), SP.fm11 (AwayP X3 g8 W.heap.size) (m2, fn, fq), SP.fm11 (AwayP X3 g8 W.heap.size) (m2, fn, fq), SP.mv11 (AwayP X3 g8 W.heap.size) m2, SP.eq (.int .i64 fn), SP.eq (.bool fq), SP.vm11 W.heap.size, SP.free, SP.eq (.int .i64 fn), SP.eq (.bool fq)] : List SP).getD j SP.free) (plPsi (m2, fn, fq)) (OmS 13 (plG X3 g8 W.heap.size (m2, fn, fq).1)) ?_ (omS_kept _ _ (by kernel_rfl)) (by kernel_rfl) (by kernel_rfl) ⟨?_, ?_, ?_, ?_, ?_, ?_, ?_, ?_, ?_, ?_, ?_, ?_, ?_, ?_, ?_, ?_, ?_, ?_, trivial⟩ ?_
              · intro j x w h
                match j, h with
                | 0, _ => trivial
                | 1, _ => trivial
                | 2, _ => trivial
                | 3, _ => trivial
                | 4, _ => trivial
                | 5, _ => trivial
                | 6, _ => trivial
                | 7, _ => trivial
                | 8, _ => trivial
                | 9, _ => trivial
                | 10, h => obtain ⟨va, vc, rfl, _⟩ := h; exact ⟨_, rfl⟩
                | 11, _ => trivial
                | 12, h => exact h
                | 13, h => exact h
                | 14, _ => trivial
                | 15, _ => trivial
                | 16, h => exact h
                | 17, h => exact h
                | n + 18, _ => trivial
              · intro a x K out get hb hK; rw [if_pos (wanted_none rfl)]; have o8 : a.tmps[8]? = some (.pointer (some ⟨g8, 0, none⟩)) := out 8 (by kernel_rfl); clear out get; obtain ⟨⟨d0, d1, d2, d3⟩, -⟩ := CM.out x hb; go_simp; exact hK _ _ rfl (Below.refl _ _)
              · intro a x K out get hb hK; rw [if_pos (wanted_none rfl)]; have o1 : a.tmps[1]? = some (.slice (some ⟨sb, so, none⟩) L.length cap) := out 1 (by kernel_rfl); clear out get; go_simp; exact hK _ _ rfl (Below.refl _ _)
              · intro a x K out get hb hK; rw [if_pos (wanted_none rfl)]; have o9 : a.tmps[9]? = some (.int .i64 i) := out 9 (by kernel_rfl); clear out get; go_simp; exact hK _ _ rfl (Below.refl _ _)
              · intro a x K out get hb hK; rw [if_pos (wanted_none rfl)]; obtain ⟨y68, hy68, rfl⟩ := get 1 _ _ rfl rfl (by kernel_rfl); obtain ⟨y69, hy69, rfl⟩ := get 2 _ _ rfl rfl (by kernel_rfl); clear out get; have hq5 := Q5.out; go_simp; exact hK _ _ rfl (Below.refl _ _)
              · intro a x K out get hb hK; rw [if_pos (wanted_none rfl)]; obtain ⟨y70, hy70, rfl⟩ := get 3 _ _ rfl rfl (by kernel_rfl); clear out get; go_simp; exact hK _ _ rfl (Below.refl _ _)
              · intro a x K out get hb hK; rw [if_pos (wanted_none rfl)]; obtain ⟨y71, hy71, rfl⟩ := get 4 _ _ rfl rfl (by kernel_rfl); clear out get; obtain ⟨-, a1, -⟩ := HACT.out x (WB.out x hb); go_simp; exact hK _ _ rfl (Below.refl _ _)
              · intro a x K out get hb hK; rw [if_pos (wanted_none rfl)]; have o10 : a.tmps[10]? = some (.int .i64 k) := out 10 (by kernel_rfl); clear out get; go_simp; exact hK _ _ rfl (Below.refl _ _)
              · intro a x K out get hb hK; rw [if_pos (wanted_none rfl)]; obtain ⟨y72, hy72, rfl⟩ := get 5 _ _ rfl rfl (by kernel_rfl); obtain ⟨y73, hy73, rfl⟩ := get 6 _ _ rfl rfl (by kernel_rfl); clear out get; have hq6 := Q6.out; go_simp; exact hK _ _ rfl (Below.refl _ _)
              · intro a x K out get hb hK; rw [if_pos (wanted_none rfl)]; obtain ⟨y74, hy74, rfl⟩ := get 7 _ _ rfl rfl (by kernel_rfl); clear out get; obtain ⟨c0, c1, c2, c3, c4, c5⟩ := (HKID.out x (WB.out x hb)).1; go_simp; exact hK _ _ rfl (Below.refl _ _)
              · intro a x K out get hb hK; rw [if_pos (wanted_none rfl)]; obtain ⟨y67, hy67, rfl⟩ := get 0 _ _ rfl rfl (by kernel_rfl); obtain ⟨y75, hy75, rfl⟩ := get 8 _ _ rfl rfl (by kernel_rfl); clear out get; go_simp; refine (KD.out x hb).mono ?_; rintro e w2 ⟨v2, rfl, hv2, hb2⟩; exact hK _ _ hv2 hb2
              · intro a x K out get hb hK; rw [if_pos (wanted_none rfl)]; obtain ⟨y76, hy76, ⟨va, vc, rfl, hr76⟩⟩ := get 9 _ _ rfl rfl (by kernel_rfl); clear out get; go_simp; exact hK _ _ ⟨va, vc, rfl, hr76⟩ (Below.refl _ _)
              · intro a x K out get hb hK; rw [if_pos (wanted_none rfl)]; obtain ⟨y66, hy66, ⟨va, vc, rfl, hr66⟩⟩ := get 10 _ _ rfl rfl (by kernel_rfl); clear out get; go_simp; exact hK _ _ ⟨va, vc, rfl, hr66⟩ (Below.refl _ _)
              · intro a x K out get hK; rw [if_pos (wanted_none rfl)]; obtain ⟨y66, hy66, ⟨va, rfl⟩⟩ := get 10 _ _ rfl rfl (by kernel_rfl); clear out get; go_simp; exact hK _ rfl (fun _ => rfl)
              · intro a x K out get hK; rw [if_pos (wanted_none rfl)]; obtain ⟨y66, hy66, ⟨va, rfl⟩⟩ := get 10 _ _ rfl rfl (by kernel_rfl); clear out get; go_simp; exact hK _ rfl (fun _ => rfl)
              · intro a x K out get hb hK; rw [if_pos (wanted_none rfl)]; clear out get; go_simp; exact hK _ _ ⟨_, rfl, hb.size, by simp, blk_new _ _⟩ (bel_al _ _)
              · intro a x K out get hb hK; rw [if_pos (wanted_none rfl)]; obtain ⟨y13, hy13, ⟨g13, rfl, hg1, hg2, hz⟩⟩ := get 14 _ _ rfl rfl (by kernel_rfl); obtain ⟨y77, hy77, ⟨va, vc, rfl, hv1, hv2⟩⟩ := get 11 _ _ rfl rfl (by kernel_rfl); obtain ⟨⟨z0, z1, z2, z3⟩, f0, f1, f2, f3⟩ := cellsM hz; have HZ := Lib.hid hz; have HRV := Lib.hid hv2; have HCV := Lib.hid hv1; clear out get hz hv2 hv1; go_simp; exact hK _ ⟨_, hy13, g13, va, vc, rfl, putM4_at HZ.out _ _ _ _, HCV.out, row_away HRV.out HZ.out _ _ _ _⟩ (belM4 hb hg1 _ _ _ _)
              · intro a x K out get hK; rw [if_pos (wanted_none rfl)]; obtain ⟨y78, hy78, rfl⟩ := get 12 _ _ rfl rfl (by kernel_rfl); clear out get; go_simp; exact hK _ rfl (fun _ => rfl)
              · intro a x K out get hK; rw [if_pos (wanted_none rfl)]; obtain ⟨y79, hy79, rfl⟩ := get 13 _ _ rfl rfl (by kernel_rfl); clear out get; go_simp; exact hK _ rfl (fun _ => rfl)
              refine ao_finS (isD := fun s => (decide (66 ≤ s) && decide (s ≤ 79)) || decide (s = 13) || decide (s = 14) || decide (s = 15)) (by decide) (by kernel_rfl) ?_; intro f W2 hv hom hb2; have e14 : f 14 = .int .i64 fn := hv 16 _ _ rfl rfl; have e15 : f 15 = .bool fq := hv 17 _ _ rfl rfl; obtain ⟨v13, h13, g13, va, vc, rfl, hz13, hc13, hr13⟩ := hom; (have e13 : f 13 = .pointer (some ⟨g13, 0, none⟩) := by simpa [frm] using h13); clear hv h13; generalize hF : (Act.mk (List.toArray (frm f _ 0 _)) _) = fr; simp [frm] at hF; rw [e13, e14, e15] at hF; subst hF; generalize f 66 = u66 at *; generalize f 67 = u67 at *; generalize f 68 = u68 at *; generalize f 69 = u69 at *; generalize f 70 = u70 at *; generalize f 71 = u71 at *; generalize f 72 = u72 at *; generalize f 73 = u73 at *; generalize f 74 = u74 at *; generalize f 75 = u75 at *; generalize f 76 = u76 at *; generalize f 77 = u77 at *; generalize f 78 = u78 at *; generalize f 79 = u79 at *; clear e13 e14 e15 f; obtain ⟨⟨z0, z1, z2, z3⟩, -⟩ := cellsM hz13; obtain ⟨⟨d0, d1, d2, d3⟩, f0, f1, f2, f3⟩ := CM.out W2 hb2; have HP4 := Lib.hid (HPS3.out.put hb2 hc13 hr13); (have hne : (fn != fn) = false := by simp); (have hqe : (fq != fq) = false := by simp); unfold putM4 at HP4; clear hz13 hc13 hr13 hb2 CM KD WB HPS3; go_wp2; exact ⟨⟨k + 1, hlk, by go_num, X3, by rw [HNF.out]; exact HP4.out⟩, by simp [intOf]; omega⟩
            · have he : l.take k = l := List.take_of_length_le (by omega); (have q2 : ¬ (k : Int) < (l.length : Int) := by omega); rw [he, ← HNX2.out] at HP2; go_wp2; exact ⟨⟨i + 1, hlt, by go_num, X2, HP2.out⟩, by simp [intOf]; omega⟩
        | false =>
          have HNX2 := Lib.hid (show m0.acts (L.take (i + 1)) = (mi.puts l).1 from HNX.out); clear HNX; have KP := Lib.hid (I.put (fun b => ¬ X1 b) mi l al1 cap1 p X1 wr (HOK.out.mono (by omega)) (HTT.out _ HPS.out.st.bel) HPS.out.st.at_ (by omega) ((HACT.out wr HPS.out.st.bel).2.2.imp fun b _ hb => HPS.out.st.not hb) (fun _ h => h)); obtain ⟨⟨mp, pn, pq⟩, hpp⟩ : ∃ P, P = mi.puts l := ⟨_, rfl⟩; rw [← hpp] at KP; have HPP := Lib.hid hpp.symm; clear hpp; go_wp2_with fail; clear c0 c1; refine KP.out.mono ?_; intro e w5 hp; obtain ⟨rfl, X3, hps3⟩ := HPS.out.post hp; simp only at hps3 ⊢; have HPS3 := Lib.hid hps3; clear hp hps3 KP HPS; go_wp2_with fail
          go_loopw [18, 19, 20] (fun y18 y19 y20 wr2 => playsP I w p g8 mp mi l y18 y19 y20 wr2) (fun _ _ y20 _ => l.length - (intOf y20).toNat)
          case atStart => exact ⟨0, Nat.zero_le _, rfl, by simp [MM.puts], by simp [MM.puts], X3, by simpa [MM.puts] using HPS3.out⟩
          case round =>
            obtain ⟨k, hk, rfl, rfl, rfl, X4, hps4⟩ := hrel; have HPS4 := Lib.hid hps4; obtain ⟨-, a1, -⟩ := HACT.out _ hps4.st.bel; clear HPS3
            by_cases hlk : k < l.length
            · (have q2 : (k : Int) < (l.length : Int) := by omega); obtain ⟨b1, o1, hal1, hb1, hok1, hnode⟩ := HR1.out.kidOk hlk; subst hal1; have hr60 := H60.out _ (List.getElem_mem hlk); have HNF := Lib.hid (MM.puts_take' mi l k hlk); have hokf := HOK.out.puts (l.take k); have HOKF := Lib.hid (hokf.mono (show 10 * i + (l.take k).length ≤ 100000 from by simp; omega)); generalize mi.puts (l.take k) = PK at *; obtain ⟨m, kn, kq⟩ := PK; simp only at HNF HOKF HPS4 hps4; generalize l[k] = r at *; obtain ⟨y0, y1, y2, y3, y4, yl, yn, yc, hcs, hre⟩ := hnode.opq; have HKID := Lib.hid fun x (hx : Below w.heap.size w x) => And.intro (six_keep hb1 hcs hx) (hre.below hx); have Q6 := Lib.hid q2; obtain ⟨W, hW⟩ : ∃ W, W = wr := ⟨_, rfl⟩; rw [← hW] at HPS4 hps4 a1 ⊢; obtain ⟨ma, mc, hblk, hmc, hmr⟩ := hps4.ref; have WB := Lib.hid fun x (hx : Below W.heap.size W x) => (HPS4.out.below hx).st.bel; have CM := Lib.hid fun x (hx : Below W.heap.size W x) => cellsM ((hx.block _ (Array.getElem?_eq_some_iff.1 hblk).1).trans hblk); have KD := Lib.hid fun x (hx : Below W.heap.size W x) => (refPut11 (ok := fun b => ¬ X4 b ∧ b ≠ g8) m (.agg #[.int .i64 (m.most : Int), .slice ma m.l.length mc, .int .i64 (m.all : Int), .int .i64 (m.met : Int)]) r _ x (by omega) (Nat.le_trans HOKF.out.len HOKF.out.most) HOKF.out.most (Nat.le_trans HOKF.out.all (by decide)) HOKF.out.met ⟨ma, mc, rfl, hmc, hmr.below hx⟩ ((HKID.out x (WB.out x hx)).2.imp fun b _ hb => ⟨HPS4.out.st.not hb, fun e => by have := HPS4.out.g.2; have : b < w.heap.size := hb; omega⟩)).mono fun e w2 h => fm_of hx.size h; generalize m.put r = FF at *; obtain ⟨m2, fn, fq⟩ := FF; clear hnode hcs hre hok1 hokf hr60 hps4 hblk hmc hmr hW; go_wp2_with fail
              refine wp_region_orderX [14] (fun i => if i = 14 then 2 else if i = 0 then 0 else if i = 9 then 0 else if i = 10 then 0 else if i = 11 then 0 else 1)
                (fun j => ([SP.eq (.agg #[.int .i64 (m.most : Int), .slice ma m.l.length mc, .int .i64 (m.all : Int), .int .i64 (m.met : Int)]), SP.eq (.slice (some ⟨sb, so, none⟩) L.length cap), SP.eq (.int .i64 i), SP.eq (.pointer (some ⟨sb, so + i * 2, none⟩)), SP.eq (.pointer (some ⟨sb, so + i * 2 + 1, none⟩)), SP.eq (.slice (some ⟨b1, o1, none⟩) l.length cap1), SP.eq (.int .i64 k), SP.eq (.pointer (some ⟨b1, o1 + k * 6, none⟩)), SP.eq (.agg #[.int .u8 y0, .int .u64 y1, .int .u64 y2, .int .u64 y3, .int .u64 y4, .slice yl yn yc]), SP.fm11 (AwayP X4 g8 W.heap.size) (m2, fn, fq), SP.fm11 (AwayP X4 g8 W.heap.size) (m2, fn, fq), SP.mv11 (AwayP X4 g8 W.heap.size) m2, SP.eq (.int .i64 fn), SP.eq (.bool fq), SP.free, SP.eq (.int .i64 fn), SP.eq (.bool fq)] : List SP).getD j SP.free) (plPsi2 (m2, fn, fq) [none, some (.slice (some ⟨sb, so, none⟩) L.length cap), some (.int .i64 i), some (.pointer (some ⟨sb, so + i * 2, none⟩)), some (.pointer (some ⟨sb, so + i * 2 + 1, none⟩)), some (.slice (some ⟨b1, o1, none⟩) l.length cap1), some (.int .i64 k), some (.pointer (some ⟨b1, o1 + k * 6, none⟩)), some (.agg #[.int .u8 y0, .int .u64 y1, .int .u64 y2, .int .u64 y3, .int .u64 y4, .slice yl yn yc]), none, none, none, some (.int .i64 fn), some (.bool fq), none, some (.int .i64 fn), some (.bool fq)])
                (fun x => Below W.heap.size W x) (fun x => Below w.heap.size w x) (fun _ _ x => PSt I w p g8 X4 mp m2 x)
                (Below.refl _ _).drew (fun x h => WB.out x h) (fun _ _ x h => h.st.bel) (fun x z h hb => h.trans (hb.mono h.size))
                (by
                  intro j y x h
                  match j, h with
                  | 0, _ => trivial
                  | 1, h => exact h
                  | 2, h => exact h
                  | 3, h => exact h
                  | 4, h => exact h
                  | 5, h => exact h
                  | 6, h => exact h
                  | 7, h => exact h
                  | 8, h => exact h
                  | 9, _ => trivial
                  | 10, h => obtain ⟨va, vc, rfl, _⟩ := h; exact ⟨_, rfl⟩
                  | 11, _ => trivial
                  | 12, h => exact h
                  | 13, h => exact h
                  | 14, _ => trivial
                  | 15, h => exact h
                  | 16, h => exact h
                  | n + 17, _ => trivial) (by kernel_rfl) (by kernel_rfl) ⟨?_, ?_, ?_, ?_, ?_, ?_, ?_, ?_, ?_, ?_, ?_, ?_, ?_, ?_, ?_, ?_, ?_, trivial⟩ ?_
              · intro a x K out get hJ hK; rw [if_pos (wanted_none rfl)]; have o8 : a.tmps[8]? = some (.pointer (some ⟨g8, 0, none⟩)) := out 8 (by kernel_rfl); obtain ⟨⟨d0, d1, d2, d3⟩, -⟩ := CM.out x hJ; clear out get; go_simp; exact hK _ _ rfl (Below.refl _ _)
              · intro a x K out get old hC hK; rw [if_pos (wanted_none rfl)]; have o1 : a.tmps[1]? = some (.slice (some ⟨sb, so, none⟩) L.length cap) := out 1 (by kernel_rfl); clear out get old; go_simp; exact hK _ rfl (fun _ => rfl)
              · intro a x K out get old hC hK; rw [if_pos (wanted_none rfl)]; have o9 : a.tmps[9]? = some (.int .i64 i) := out 9 (by kernel_rfl); clear out get old; go_simp; exact hK _ rfl (fun _ => rfl)
              · intro a x K out get old hC hK; rw [if_pos (wanted_none rfl)]; obtain ⟨y111, hy111, rfl⟩ := get 1 _ _ rfl rfl (by kernel_rfl); obtain ⟨y112, hy112, rfl⟩ := get 2 _ _ rfl rfl (by kernel_rfl); clear out get old; have hq5 := Q5.out; go_simp; exact hK _ rfl (fun _ => rfl)
              · intro a x K out get old hC hK; rw [if_pos (wanted_none rfl)]; obtain ⟨y113, hy113, rfl⟩ := get 3 _ _ rfl rfl (by kernel_rfl); clear out get old; go_simp; exact hK _ rfl (fun _ => rfl)
              · intro a x K out get old hC hK; rw [if_pos (wanted_none rfl)]; obtain ⟨y114, hy114, rfl⟩ := get 4 _ _ rfl rfl (by kernel_rfl); clear out get old; obtain ⟨-, a1, -⟩ := HACT.out x hC; go_simp; exact hK _ rfl (fun _ => rfl)
              · intro a x K out get old hC hK; rw [if_pos (wanted_none rfl)]; have o20 : a.tmps[20]? = some (.int .i64 k) := out 20 (by kernel_rfl); clear out get old; go_simp; exact hK _ rfl (fun _ => rfl)
              · intro a x K out get old hC hK; rw [if_pos (wanted_none rfl)]; obtain ⟨y115, hy115, rfl⟩ := get 5 _ _ rfl rfl (by kernel_rfl); obtain ⟨y116, hy116, rfl⟩ := get 6 _ _ rfl rfl (by kernel_rfl); clear out get old; have hq6 := Q6.out; go_simp; exact hK _ rfl (fun _ => rfl)
              · intro a x K out get old hC hK; rw [if_pos (wanted_none rfl)]; obtain ⟨y117, hy117, rfl⟩ := get 7 _ _ rfl rfl (by kernel_rfl); clear out get old; obtain ⟨c0, c1, c2, c3, c4, c5⟩ := (HKID.out x hC).1; go_simp; exact hK _ rfl (fun _ => rfl)
              · intro a x K out get hJ hK; rw [if_pos (wanted_none rfl)]; obtain ⟨y118, hy118, rfl⟩ := get 8 _ _ rfl rfl (by kernel_rfl); obtain ⟨y110, hy110, hp110⟩ := get 0 _ _ rfl rfl (by kernel_rfl); obtain rfl := hp110; clear out get; go_simp; refine (KD.out x hJ).mono ?_; rintro e w2 ⟨v2, rfl, hv2, hb2⟩; exact hK _ _ hv2 hb2
              · intro a x K out get hJ hK; rw [if_pos (wanted_none rfl)]; obtain ⟨y119, hy119, ⟨va, vc, rfl, hr119⟩⟩ := get 9 _ _ rfl rfl (by kernel_rfl); clear out get; go_simp; exact hK _ _ ⟨va, vc, rfl, hr119⟩ (Below.refl _ _)
              · intro a x K out get hJ hK; rw [if_pos (wanted_none rfl)]; obtain ⟨y109, hy109, ⟨va, vc, rfl, hr109⟩⟩ := get 10 _ _ rfl rfl (by kernel_rfl); clear out get; go_simp; exact hK _ _ ⟨va, vc, rfl, hr109⟩ (Below.refl _ _)
              · intro a x K out get old hC hK; rw [if_pos (wanted_none rfl)]; obtain ⟨y109, hy109, ⟨va, rfl⟩⟩ := get 10 _ _ rfl rfl (by kernel_rfl); clear out get old; go_simp; exact hK _ rfl (fun _ => rfl)
              · intro a x K out get old hC hK; rw [if_pos (wanted_none rfl)]; obtain ⟨y109, hy109, ⟨va, rfl⟩⟩ := get 10 _ _ rfl rfl (by kernel_rfl); clear out get old; go_simp; exact hK _ rfl (fun _ => rfl)
              · intro a x K out get hJ hK; rw [if_pos (wanted_none rfl)]; have o8 : a.tmps[8]? = some (.pointer (some ⟨g8, 0, none⟩)) := out 8 (by kernel_rfl); obtain ⟨y120, hy120, -, hp120⟩ := get 11 _ _ rfl rfl (by kernel_rfl); obtain ⟨va, vc, rfl, hc2, hr2⟩ := hp120 rfl; obtain ⟨⟨d0, d1, d2, d3⟩, f0, f1, f2, f3⟩ := CM.out x hJ; have HP5 := Lib.hid (HPS4.out.put hJ hc2 hr2); unfold putM4 at HP5; clear out get hc2 hr2; go_simp; exact hK (.bool true) _ trivial HP5.out
              · intro a x K out get old hC hK; rw [if_pos (wanted_none rfl)]; obtain ⟨y121, hy121, rfl⟩ := get 12 _ _ rfl rfl (by kernel_rfl); clear out get old; go_simp; exact hK _ rfl (fun _ => rfl)
              · intro a x K out get old hC hK; rw [if_pos (wanted_none rfl)]; obtain ⟨y122, hy122, rfl⟩ := get 13 _ _ rfl rfl (by kernel_rfl); clear out get old; go_simp; exact hK _ rfl (fun _ => rfl)
              refine ao_finX (isD := fun s => (decide (109 ≤ s) && decide (s ≤ 122)) || decide (s = 18) || decide (s = 19)) 0 none rfl (by kernel_rfl) (by kernel_rfl) (by kernel_rfl) ?_; intro f W2 hv hG hN; obtain ⟨_, hps5⟩ := hN rfl; have HP5 := Lib.hid hps5; have e18 : f 18 = .int .i64 fn := hv 15 _ _ rfl rfl; have e19 : f 19 = .bool fq := hv 16 _ _ rfl rfl; clear hv hG hN hps5 CM KD WB HPS4; generalize hF : (Act.mk (List.toArray (frm f _ 0 _)) _) = fr; simp [frm] at hF; rw [e18, e19] at hF; subst hF; generalize f 109 = u109 at *; generalize f 110 = u110 at *; generalize f 111 = u111 at *; generalize f 112 = u112 at *; generalize f 113 = u113 at *; generalize f 114 = u114 at *; generalize f 115 = u115 at *; generalize f 116 = u116 at *; generalize f 117 = u117 at *; generalize f 118 = u118 at *; generalize f 119 = u119 at *; generalize f 120 = u120 at *; generalize f 121 = u121 at *; generalize f 122 = u122 at *; clear e18 e19 f; go_wp2; exact ⟨⟨k + 1, hlk, by go_num, by rw [HNF.out], by rw [HNF.out], X4, by rw [HNF.out]; exact HP5.out⟩, by simp [intOf]; omega⟩
            · have he : l.take k = l := List.take_of_length_le (by omega); (have q2 : ¬ (k : Int) < (l.length : Int) := by omega); rw [he, HPP.out] at hps4 ⊢; have HE := Lib.hid (show PSt I w p g8 X4 (m0.acts (L.take (i + 1))) (m0.acts (L.take (i + 1))) wr from by rw [HNX2.out, HPP.out]; exact hps4); (have hne : (pn != pn) = false := by simp); (have hqe : (pq != pq) = false := by simp); clear hps4 HPS4; go_wp2; exact ⟨⟨i + 1, hlt, by go_num, X4, HE.out⟩, by simp [intOf]; omega⟩
      · skip
        (have q1 : ¬ (i : Int) < (L.length : Int) := by omega); have hsl := HSM.out.1; have HOKE := Lib.hid (show (m0.acts (L.take i)).Ok 100000 from (HOK0.out.acts (L.take i) fun a ha => (HSM.out.2 a (List.mem_of_mem_take ha)).1).mono (by simp; omega)); generalize m0.acts (L.take i) = m at *; have KT := Lib.hid (I.tell m at_ p X1 wr HOKE.out HPS.out.st.at_); have HTL := Lib.hid (show (∃ k : Nat, at_ = (k : Int) ∧ ∃ h : k < m.l.length, m.at at_ = (m.l[k], true)) ∨ (¬ (0 ≤ at_ ∧ at_ < (m.l.length : Int)) ∧ m.at at_ = (.node 0 Ws.nil [], false)) from at_cases m at_); generalize m.at at_ = TT at *; obtain ⟨tx, tq⟩ := TT; clear HAC HOK0 HSM hsl; go_wp2_with fail; refine KT.out.mono ?_; rintro e w5 ⟨v5, rfl, hv5, hb5⟩; obtain ⟨x0, x1, x2, x3, x4, xl, xn, xc, rfl⟩ := cells_re hv5; have hal := bel_al w5 (.cells #[.int .u8 x0, .int .u64 x1, .int .u64 x2, .int .u64 x3, .int .u64 x4, .slice xl xn xc] 39); have HP6 := Lib.hid ((HPS.out.below hb5).below hal); have HX6 := Lib.hid (blk_new w5 (.cells #[.int .u8 x0, .int .u64 x1, .int .u64 x2, .int .u64 x3, .int .u64 x4, .slice xl xn xc] 39)); have HV6 := Lib.hid (show ReAt (fun _ => True) (w5.alloc (.cells #[.int .u8 x0, .int .u64 x1, .int .u64 x2, .int .u64 x3, .int .u64 x4, .slice xl xn xc] 39)) _ tx from (hv5.below hal).imp fun _ _ _ => trivial); have KQ := Lib.hid (I.asked m p X1 _ HOKE.out HP6.out.st.at_); clear hv5 hb5 hal HPS KT; simp only; go_wp2_with fail; obtain ⟨g21, hg21⟩ : ∃ g, g = w5.heap.size := ⟨_, rfl⟩; rw [← hg21] at HX6 ⊢; obtain ⟨w6, hw6⟩ : ∃ x, x = w5.alloc (.cells #[.int .u8 x0, .int .u64 x1, .int .u64 x2, .int .u64 x3, .int .u64 x4, .slice xl xn xc] 39) := ⟨_, rfl⟩; rw [← hw6] at HX6 HV6 HP6 KQ ⊢; clear hw6 hg21; refine KQ.out.mono ?_; rintro e W ⟨rfl, hb7⟩; have HPW := Lib.hid (HP6.out.below hb7); have HX21 := Lib.hid ((hb7.block _ (Array.getElem?_eq_some_iff.1 HX6.out).1).trans HX6.out); have HV21 := Lib.hid (HV6.out.below hb7); clear hb7 HX6 HV6 HP6 KQ; obtain ⟨ma, mc, hblk, hmc, hmr⟩ := HPW.out.ref; have CM := Lib.hid fun x (hx : Below W.heap.size W x) => cellsM ((hx.block _ (Array.getElem?_eq_some_iff.1 hblk).1).trans hblk); clear hblk
        rcases HTL.out with ⟨k, rfl, hkl, htt⟩ | ⟨hno, htt⟩
        · injection htt with htt1 htt2; subst htt2; have hkx : m.l[k] = tx := htt1.symm; have QG := Lib.hid (show (0 : Int) ≤ (k : Int) from by omega); have QL := Lib.hid (show (k : Int) < (m.l.length : Int) from by omega); clear HTL htt1; have CX := Lib.hid fun x (hx : Below W.heap.size W x) => cellsR ((hx.block _ (Array.getElem?_eq_some_iff.1 HX21.out).1).trans HX21.out); obtain ⟨b2, o2, hab2, hb2l, hok2, hnode2⟩ := hmr.kidOk hkl; subst hab2; rw [hkx] at hnode2; obtain ⟨z0, z1, z2, z3, z4, zl, zn, zc, hzs, hzr⟩ := hnode2.opq; have CZ := Lib.hid fun x (hx : Below W.heap.size W x) => six_keep hb2l hzs hx; have KS := Lib.hid fun x (hx : Below W.heap.size W x) => refSame _ _ _ _ x (HV21.out.below hx) (hzr.below hx); rw [show sameR tx tx = true from (sameR_iff _ _).2 rfl] at KS; clear hnode2 hzs hzr hok2; clear hmr hmc HX21 HV21; go_wp2_with fail; refine wp_region_order (fun j => ([SP.eq (.bool true), SP.eq (.int .i64 (k : Int)), SP.eq (.bool true), SP.eq (.bool true), SP.eq (.int .i64 (k : Int)), SP.eq (.pointer (some ⟨g8, 1, none⟩)), SP.eq (.slice (some ⟨b2, o2, none⟩) m.l.length mc), SP.eq (.int .i64 m.l.length), SP.eq (.bool true), SP.eq (.bool true), SP.eq (.bool false), SP.eq (.bool false), SP.eq (.bool true), SP.eq (.bool true), SP.eq (.agg #[.int .u8 x0, .int .u64 x1, .int .u64 x2, .int .u64 x3, .int .u64 x4, .slice xl xn xc]), SP.eq (.pointer (some ⟨g8, 1, none⟩)), SP.eq (.slice (some ⟨b2, o2, none⟩) m.l.length mc), SP.eq (.int .i64 (k : Int)), SP.eq (.pointer (some ⟨b2, o2 + k * 6, none⟩)), SP.eq (.agg #[.int .u8 z0, .int .u64 z1, .int .u64 z2, .int .u64 z3, .int .u64 z4, .slice zl zn zc]), SP.eq (.bool true), SP.eq (.bool false), SP.eq (.bool false), SP.eq (.bool false), SP.eq (.bool false), SP.eq (.bool true), SP.eq (.bool false), SP.eq (.bool false), SP.eq undef, SP.eq undef, SP.eq undef, SP.eq undef, SP.eq (.bool false), SP.eq (.bool false)] : List SP).getD j SP.free) (by kernel_rfl) (by kernel_rfl) ⟨?_, ?_, ?_, ?_, ?_, ?_, ?_, ?_, ?_, ?_, ?_, ?_, ?_, ?_, ?_, ?_, ?_, ?_, ?_, ?_, ?_, ?_, ?_, ?_, ?_, ?_, ?_, ?_, ?_, ?_, ?_, ?_, ?_, ?_, trivial⟩ ?_
          · intro a x K out get hb hK; rw [if_pos (wanted_none rfl)]; have o22 : a.tmps[22]? = some (.bool true) := out 22 (by kernel_rfl); clear out get; go_simp; exact hK _ _ rfl (Below.refl _ _)
          · intro a x K out get hb hK; rw [if_pos (wanted_none rfl)]; have o2 : a.tmps[2]? = some (.int .i64 (k : Int)) := out 2 (by kernel_rfl); clear out get; go_simp; exact hK _ _ rfl (Below.refl _ _)
          · intro a x K out get hb hK; rw [if_pos (wanted_none rfl)]; obtain ⟨y143, hy143, rfl⟩ := get 1 _ _ rfl rfl (by kernel_rfl); clear out get; have hg := QG.out; go_simp; exact hK _ _ rfl (Below.refl _ _)
          · intro a x K out get hb hK; rw [if_pos (wanted_none rfl)]; obtain ⟨y144, hy144, rfl⟩ := get 2 _ _ rfl rfl (by kernel_rfl); clear out get; go_simp; exact hK _ _ rfl (Below.refl _ _)
          · intro a x K out get hb hK; obtain ⟨yg, hyg, rfl⟩ := get 3 _ _ rfl rfl (by kernel_rfl); rw [if_pos (by rw [wanted_bool rfl rfl rfl hyg]; rfl)]; clear hyg; have o2 : a.tmps[2]? = some (.int .i64 (k : Int)) := out 2 (by kernel_rfl); clear out get; go_simp; exact hK _ _ rfl (Below.refl _ _)
          · intro a x K out get hb hK; obtain ⟨yg, hyg, rfl⟩ := get 3 _ _ rfl rfl (by kernel_rfl); rw [if_pos (by rw [wanted_bool rfl rfl rfl hyg]; rfl)]; clear hyg; have o8 : a.tmps[8]? = some (.pointer (some ⟨g8, 0, none⟩)) := out 8 (by kernel_rfl); clear out get; go_simp; exact hK _ _ rfl (Below.refl _ _)
          · intro a x K out get hb hK; obtain ⟨yg, hyg, rfl⟩ := get 3 _ _ rfl rfl (by kernel_rfl); rw [if_pos (by rw [wanted_bool rfl rfl rfl hyg]; rfl)]; clear hyg; obtain ⟨y147, hy147, rfl⟩ := get 5 _ _ rfl rfl (by kernel_rfl); clear out get; obtain ⟨⟨d0, d1, d2, d3⟩, -⟩ := CM.out x hb; go_simp; exact hK _ _ rfl (Below.refl _ _)
          · intro a x K out get hb hK; obtain ⟨yg, hyg, rfl⟩ := get 3 _ _ rfl rfl (by kernel_rfl); rw [if_pos (by rw [wanted_bool rfl rfl rfl hyg]; rfl)]; clear hyg; obtain ⟨y148, hy148, rfl⟩ := get 6 _ _ rfl rfl (by kernel_rfl); clear out get; go_simp; exact hK _ _ rfl (Below.refl _ _)
          · intro a x K out get hb hK; obtain ⟨yg, hyg, rfl⟩ := get 3 _ _ rfl rfl (by kernel_rfl); rw [if_pos (by rw [wanted_bool rfl rfl rfl hyg]; rfl)]; clear hyg; obtain ⟨y146, hy146, rfl⟩ := get 4 _ _ rfl rfl (by kernel_rfl); obtain ⟨y149, hy149, rfl⟩ := get 7 _ _ rfl rfl (by kernel_rfl); clear out get; have hl := QL.out; go_simp; exact hK _ _ rfl (Below.refl _ _)
          · intro a x K out get hb hK; rw [if_pos (wanted_none rfl)]; obtain ⟨y145, hy145, rfl⟩ := get 3 _ _ rfl rfl (by kernel_rfl); obtain ⟨y150, hy150, rfl⟩ := get 8 _ _ rfl rfl (by kernel_rfl); clear out get; go_simp; exact hK _ _ rfl (Below.refl _ _)
          · intro a x K out get hb hK; rw [if_pos (wanted_none rfl)]; obtain ⟨y142, hy142, rfl⟩ := get 0 _ _ rfl rfl (by kernel_rfl); obtain ⟨y151, hy151, rfl⟩ := get 9 _ _ rfl rfl (by kernel_rfl); clear out get; go_simp; exact hK _ _ rfl (Below.refl _ _)
          · intro a x K out get hb hK; rw [if_pos (wanted_none rfl)]; obtain ⟨y152, hy152, rfl⟩ := get 10 _ _ rfl rfl (by kernel_rfl); clear out get; go_simp; exact hK _ _ rfl (Below.refl _ _)
          · intro a x K out get hb hK; obtain ⟨yg, hyg, rfl⟩ := get 11 _ _ rfl rfl (by kernel_rfl); rw [if_pos (by rw [wanted_bool rfl rfl rfl hyg]; rfl)]; clear hyg; have o22 : a.tmps[22]? = some (.bool true) := out 22 (by kernel_rfl); clear out get; go_simp; exact hK _ _ rfl (Below.refl _ _)
          · intro a x K out get hb hK; obtain ⟨yg, hyg, rfl⟩ := get 11 _ _ rfl rfl (by kernel_rfl); rw [if_pos (by rw [wanted_bool rfl rfl rfl hyg]; rfl)]; clear hyg; obtain ⟨y154, hy154, rfl⟩ := get 12 _ _ rfl rfl (by kernel_rfl); clear out get; go_simp; exact hK _ _ rfl (Below.refl _ _)
          · intro a x K out get hb hK; obtain ⟨yg, hyg, rfl⟩ := get 13 _ _ rfl rfl (by kernel_rfl); rw [if_pos (by rw [wanted_bool rfl rfl rfl hyg]; rfl)]; clear hyg; have o21 : a.tmps[21]? = some (.pointer (some ⟨g21, 0, none⟩)) := out 21 (by kernel_rfl); clear out get; obtain ⟨c0, c1, c2, c3, c4, c5, -⟩ := CX.out x hb; go_simp; exact hK _ _ rfl (Below.refl _ _)
          · intro a x K out get hb hK; obtain ⟨yg, hyg, rfl⟩ := get 13 _ _ rfl rfl (by kernel_rfl); rw [if_pos (by rw [wanted_bool rfl rfl rfl hyg]; rfl)]; clear hyg; have o8 : a.tmps[8]? = some (.pointer (some ⟨g8, 0, none⟩)) := out 8 (by kernel_rfl); clear out get; go_simp; exact hK _ _ rfl (Below.refl _ _)
          · intro a x K out get hb hK; obtain ⟨yg, hyg, rfl⟩ := get 13 _ _ rfl rfl (by kernel_rfl); rw [if_pos (by rw [wanted_bool rfl rfl rfl hyg]; rfl)]; clear hyg; obtain ⟨y157, hy157, rfl⟩ := get 15 _ _ rfl rfl (by kernel_rfl); clear out get; obtain ⟨⟨d0, d1, d2, d3⟩, -⟩ := CM.out x hb; go_simp; exact hK _ _ rfl (Below.refl _ _)
          · intro a x K out get hb hK; obtain ⟨yg, hyg, rfl⟩ := get 13 _ _ rfl rfl (by kernel_rfl); rw [if_pos (by rw [wanted_bool rfl rfl rfl hyg]; rfl)]; clear hyg; have o2 : a.tmps[2]? = some (.int .i64 (k : Int)) := out 2 (by kernel_rfl); clear out get; go_simp; exact hK _ _ rfl (Below.refl _ _)
          · intro a x K out get hb hK; obtain ⟨yg, hyg, rfl⟩ := get 13 _ _ rfl rfl (by kernel_rfl); rw [if_pos (by rw [wanted_bool rfl rfl rfl hyg]; rfl)]; clear hyg; obtain ⟨y158, hy158, rfl⟩ := get 16 _ _ rfl rfl (by kernel_rfl); obtain ⟨y159, hy159, rfl⟩ := get 17 _ _ rfl rfl (by kernel_rfl); clear out get; have hl := QL.out; go_simp; exact hK _ _ rfl (Below.refl _ _)
          · intro a x K out get hb hK; obtain ⟨yg, hyg, rfl⟩ := get 13 _ _ rfl rfl (by kernel_rfl); rw [if_pos (by rw [wanted_bool rfl rfl rfl hyg]; rfl)]; clear hyg; obtain ⟨y160, hy160, rfl⟩ := get 18 _ _ rfl rfl (by kernel_rfl); clear out get; obtain ⟨c0, c1, c2, c3, c4, c5⟩ := CZ.out x hb; go_simp; exact hK _ _ rfl (Below.refl _ _)
          · intro a x K out get hb hK; obtain ⟨yg, hyg, rfl⟩ := get 13 _ _ rfl rfl (by kernel_rfl); rw [if_pos (by rw [wanted_bool rfl rfl rfl hyg]; rfl)]; clear hyg; obtain ⟨y156, hy156, rfl⟩ := get 14 _ _ rfl rfl (by kernel_rfl); obtain ⟨y161, hy161, rfl⟩ := get 19 _ _ rfl rfl (by kernel_rfl); clear out get; go_simp; refine (KS.out x hb).mono ?_; rintro e w2 ⟨rfl, hb2⟩; exact hK _ _ rfl hb2
          · intro a x K out get hb hK; obtain ⟨yg, hyg, rfl⟩ := get 13 _ _ rfl rfl (by kernel_rfl); rw [if_pos (by rw [wanted_bool rfl rfl rfl hyg]; rfl)]; clear hyg; obtain ⟨y162, hy162, rfl⟩ := get 20 _ _ rfl rfl (by kernel_rfl); clear out get; go_simp; exact hK _ _ rfl (Below.refl _ _)
          · intro a x K out get hb hK; obtain ⟨yg, hyg, rfl⟩ := get 11 _ _ rfl rfl (by kernel_rfl); rw [if_pos (by rw [wanted_bool rfl rfl rfl hyg]; rfl)]; clear hyg; obtain ⟨y155, hy155, rfl⟩ := get 13 _ _ rfl rfl (by kernel_rfl); obtain ⟨y163, hy163, rfl⟩ := get 21 _ _ rfl rfl (by kernel_rfl); clear out get; go_simp; exact hK _ _ rfl (Below.refl _ _)
          · intro a x K out get hb hK; rw [if_pos (wanted_none rfl)]; obtain ⟨y153, hy153, rfl⟩ := get 11 _ _ rfl rfl (by kernel_rfl); obtain ⟨y164, hy164, rfl⟩ := get 22 _ _ rfl rfl (by kernel_rfl); clear out get; go_simp; exact hK _ _ rfl (Below.refl _ _)
          · intro a x K out get hb hK; rw [if_pos (wanted_none rfl)]; obtain ⟨y165, hy165, rfl⟩ := get 23 _ _ rfl rfl (by kernel_rfl); clear out get; go_simp; exact hK _ _ rfl (Below.refl _ _)
          · intro a x K out get hb hK; obtain ⟨yg, hyg, rfl⟩ := get 24 _ _ rfl rfl (by kernel_rfl); rw [if_pos (by rw [wanted_bool rfl rfl rfl hyg]; rfl)]; clear hyg; have o22 : a.tmps[22]? = some (.bool true) := out 22 (by kernel_rfl); clear out get; go_simp; exact hK _ _ rfl (Below.refl _ _)
          · intro a x K out get hb hK; obtain ⟨yg, hyg, rfl⟩ := get 24 _ _ rfl rfl (by kernel_rfl); rw [if_pos (by rw [wanted_bool rfl rfl rfl hyg]; rfl)]; clear hyg; obtain ⟨y167, hy167, rfl⟩ := get 25 _ _ rfl rfl (by kernel_rfl); clear out get; go_simp; exact hK _ _ rfl (Below.refl _ _)
          · intro a x K out get hb hK; obtain ⟨yg, hyg, rfl⟩ := get 24 _ _ rfl rfl (by kernel_rfl); rw [if_pos (by rw [wanted_bool rfl rfl rfl hyg]; rfl)]; clear hyg; obtain ⟨y168, hy168, rfl⟩ := get 26 _ _ rfl rfl (by kernel_rfl); clear out get; go_simp; exact hK _ _ rfl (Below.refl _ _)
          · intro a x K out get hb hK; obtain ⟨yg, hyg, rfl⟩ := get 27 _ _ rfl rfl (by kernel_rfl); rw [if_neg (by rw [wanted_bool rfl rfl rfl hyg]; decide)]; exact hK _ _ rfl (Below.refl _ _)
          · intro a x K out get hb hK; obtain ⟨yg, hyg, rfl⟩ := get 27 _ _ rfl rfl (by kernel_rfl); rw [if_neg (by rw [wanted_bool rfl rfl rfl hyg]; decide)]; exact hK _ _ rfl (Below.refl _ _)
          · intro a x K out get hb hK; obtain ⟨yg, hyg, rfl⟩ := get 27 _ _ rfl rfl (by kernel_rfl); rw [if_neg (by rw [wanted_bool rfl rfl rfl hyg]; decide)]; exact hK _ _ rfl (Below.refl _ _)
          · intro a x K out get hb hK; obtain ⟨yg, hyg, rfl⟩ := get 27 _ _ rfl rfl (by kernel_rfl); rw [if_neg (by rw [wanted_bool rfl rfl rfl hyg]; decide)]; exact hK _ _ rfl (Below.refl _ _)
          · intro a x K out get hb hK; obtain ⟨yg, hyg, rfl⟩ := get 24 _ _ rfl rfl (by kernel_rfl); rw [if_pos (by rw [wanted_bool rfl rfl rfl hyg]; rfl)]; clear hyg; obtain ⟨y169, hy169, rfl⟩ := get 27 _ _ rfl rfl (by kernel_rfl); obtain ⟨y173, hy173, rfl⟩ := get 31 _ _ rfl rfl (by kernel_rfl); clear out get; go_simp; exact hK _ _ rfl (Below.refl _ _)
          · intro a x K out get hb hK; rw [if_pos (wanted_none rfl)]; obtain ⟨y166, hy166, rfl⟩ := get 24 _ _ rfl rfl (by kernel_rfl); obtain ⟨y174, hy174, rfl⟩ := get 32 _ _ rfl rfl (by kernel_rfl); clear out get; go_simp; exact hK _ _ rfl (Below.refl _ _)
          refine ao_fin (isD := fun s => decide (142 ≤ s) && decide (s ≤ 175)) (by kernel_rfl) ?_; intro f W2 hv hb2; have e175 : f 175 = .bool false := hv 33 _ _ rfl rfl; clear hv; generalize hF : (Act.mk (List.toArray (frm f _ 0 _)) _) = fr; simp [frm] at hF; rw [e175] at hF; subst hF; generalize f 142 = u142 at *; generalize f 143 = u143 at *; generalize f 144 = u144 at *; generalize f 145 = u145 at *; generalize f 146 = u146 at *; generalize f 147 = u147 at *; generalize f 148 = u148 at *; generalize f 149 = u149 at *; generalize f 150 = u150 at *; generalize f 151 = u151 at *; generalize f 152 = u152 at *; generalize f 153 = u153 at *; generalize f 154 = u154 at *; generalize f 155 = u155 at *; generalize f 156 = u156 at *; generalize f 157 = u157 at *; generalize f 158 = u158 at *; generalize f 159 = u159 at *; generalize f 160 = u160 at *; generalize f 161 = u161 at *; generalize f 162 = u162 at *; generalize f 163 = u163 at *; generalize f 164 = u164 at *; generalize f 165 = u165 at *; generalize f 166 = u166 at *; generalize f 167 = u167 at *; generalize f 168 = u168 at *; generalize f 169 = u169 at *; generalize f 170 = u170 at *; generalize f 171 = u171 at *; generalize f 172 = u172 at *; generalize f 173 = u173 at *; generalize f 174 = u174 at *; clear e175 f; have HP2 := Lib.hid (HPW.out.below hb2); clear hb2 HPW CM CX KS CZ; obtain ⟨ma, mc, hblk, -, -⟩ := HP2.out.ref; have CM := Lib.hid fun x (hx : Below W2.heap.size W2 x) => cellsM ((hx.block _ (Array.getElem?_eq_some_iff.1 hblk).1).trans hblk); have KL := Lib.hid fun x (hx : Below W2.heap.size W2 x) => I.len m p X1 x HOKE.out (HP2.out.below hx).st.at_; have KR := Lib.hid fun x (hx : Below W2.heap.size W2 x) => I.room m p X1 x HOKE.out (HP2.out.below hx).st.at_; have KW := Lib.hid fun x (hx : Below W2.heap.size W2 x) => KA.out x (HP2.out.below hx).st.bel; clear hblk; go_wp2_with fail; refine wp_region_order (fun j => ([SP.eq (p), SP.eq (.int .i64 (m.l.length : Int)), SP.eq (.pointer (some ⟨g8, 1, none⟩)), SP.eq (.slice ma m.l.length mc), SP.eq (.int .i64 (m.l.length : Int)), SP.eq (.bool true), SP.eq (.bool true), SP.eq (p), SP.eq (.int .i64 ((m.most : Int) - (m.l.length : Int))), SP.eq (.pointer (some ⟨g8, 0, none⟩)), SP.eq (.int .i64 (m.most : Int)), SP.eq (.pointer (some ⟨g8, 1, none⟩)), SP.eq (.slice ma m.l.length mc), SP.eq (.int .i64 (m.l.length : Int)), SP.eq (.int .i64 ((m.most : Int) - (m.l.length : Int))), SP.eq (.bool true), SP.eq (.bool true), SP.eq (.bool true), SP.eq (.int .i64 (m.all : Int)), SP.eq (.pointer (some ⟨g8, 2, none⟩)), SP.eq (.int .i64 (m.all : Int)), SP.eq (.bool true), SP.eq (.bool true), SP.eq (.bool true), SP.eq (.int .i64 (m.met : Int)), SP.eq (.pointer (some ⟨g8, 3, none⟩)), SP.eq (.int .i64 (m.met : Int)), SP.eq (.bool true), SP.eq (.bool true), SP.eq (.bool true), SP.eq (.bool true), SP.eq (.bool true), SP.eq (.bool true)] : List SP).getD j SP.free) (by kernel_rfl) (by kernel_rfl) ⟨?_, ?_, ?_, ?_, ?_, ?_, ?_, ?_, ?_, ?_, ?_, ?_, ?_, ?_, ?_, ?_, ?_, ?_, ?_, ?_, ?_, ?_, ?_, ?_, ?_, ?_, ?_, ?_, ?_, ?_, ?_, ?_, ?_, trivial⟩ ?_
          · intro a x K out get hb hK; rw [if_pos (wanted_none rfl)]; have o7 : a.tmps[7]? = some (p) := out 7 (by kernel_rfl); clear out get; go_simp; exact hK _ _ rfl (Below.refl _ _)
          · intro a x K out get hb hK; rw [if_pos (wanted_none rfl)]; obtain ⟨y176, hy176, rfl⟩ := get 0 _ _ rfl rfl (by kernel_rfl); clear out get; go_simp; refine (KL.out x hb).mono ?_; rintro e w2 ⟨rfl, hb2⟩; exact hK _ _ rfl hb2
          · intro a x K out get hb hK; rw [if_pos (wanted_none rfl)]; have o8 : a.tmps[8]? = some (.pointer (some ⟨g8, 0, none⟩)) := out 8 (by kernel_rfl); clear out get; go_simp; exact hK _ _ rfl (Below.refl _ _)
          · intro a x K out get hb hK; rw [if_pos (wanted_none rfl)]; obtain ⟨y178, hy178, rfl⟩ := get 2 _ _ rfl rfl (by kernel_rfl); clear out get; obtain ⟨⟨d0, d1, d2, d3⟩, -⟩ := CM.out x hb; go_simp; exact hK _ _ rfl (Below.refl _ _)
          · intro a x K out get hb hK; rw [if_pos (wanted_none rfl)]; obtain ⟨y179, hy179, rfl⟩ := get 3 _ _ rfl rfl (by kernel_rfl); clear out get; go_simp; exact hK _ _ rfl (Below.refl _ _)
          · intro a x K out get hb hK; rw [if_pos (wanted_none rfl)]; obtain ⟨y177, hy177, rfl⟩ := get 1 _ _ rfl rfl (by kernel_rfl); obtain ⟨y180, hy180, rfl⟩ := get 4 _ _ rfl rfl (by kernel_rfl); clear out get; (have hq : ((m.l.length : Int) == (m.l.length : Int)) = true := by simp); go_simp; exact hK _ _ rfl (Below.refl _ _)
          · intro a x K out get hb hK; rw [if_pos (wanted_none rfl)]; obtain ⟨y181, hy181, rfl⟩ := get 5 _ _ rfl rfl (by kernel_rfl); clear out get; go_simp; exact hK _ _ rfl (Below.refl _ _)
          · intro a x K out get hb hK; obtain ⟨yg, hyg, rfl⟩ := get 6 _ _ rfl rfl (by kernel_rfl); rw [if_pos (by rw [wanted_bool rfl rfl rfl hyg]; rfl)]; clear hyg; have o7 : a.tmps[7]? = some (p) := out 7 (by kernel_rfl); clear out get; go_simp; exact hK _ _ rfl (Below.refl _ _)
          · intro a x K out get hb hK; obtain ⟨yg, hyg, rfl⟩ := get 6 _ _ rfl rfl (by kernel_rfl); rw [if_pos (by rw [wanted_bool rfl rfl rfl hyg]; rfl)]; clear hyg; obtain ⟨y183, hy183, rfl⟩ := get 7 _ _ rfl rfl (by kernel_rfl); clear out get; go_simp; refine (KR.out x hb).mono ?_; rintro e w2 ⟨rfl, hb2⟩; exact hK _ _ rfl hb2
          · intro a x K out get hb hK; obtain ⟨yg, hyg, rfl⟩ := get 6 _ _ rfl rfl (by kernel_rfl); rw [if_pos (by rw [wanted_bool rfl rfl rfl hyg]; rfl)]; clear hyg; have o8 : a.tmps[8]? = some (.pointer (some ⟨g8, 0, none⟩)) := out 8 (by kernel_rfl); clear out get; go_simp; exact hK _ _ rfl (Below.refl _ _)
          · intro a x K out get hb hK; obtain ⟨yg, hyg, rfl⟩ := get 6 _ _ rfl rfl (by kernel_rfl); rw [if_pos (by rw [wanted_bool rfl rfl rfl hyg]; rfl)]; clear hyg; obtain ⟨y185, hy185, rfl⟩ := get 9 _ _ rfl rfl (by kernel_rfl); clear out get; obtain ⟨⟨d0, d1, d2, d3⟩, -⟩ := CM.out x hb; go_simp; exact hK _ _ rfl (Below.refl _ _)
          · intro a x K out get hb hK; obtain ⟨yg, hyg, rfl⟩ := get 6 _ _ rfl rfl (by kernel_rfl); rw [if_pos (by rw [wanted_bool rfl rfl rfl hyg]; rfl)]; clear hyg; have o8 : a.tmps[8]? = some (.pointer (some ⟨g8, 0, none⟩)) := out 8 (by kernel_rfl); clear out get; go_simp; exact hK _ _ rfl (Below.refl _ _)
          · intro a x K out get hb hK; obtain ⟨yg, hyg, rfl⟩ := get 6 _ _ rfl rfl (by kernel_rfl); rw [if_pos (by rw [wanted_bool rfl rfl rfl hyg]; rfl)]; clear hyg; obtain ⟨y187, hy187, rfl⟩ := get 11 _ _ rfl rfl (by kernel_rfl); clear out get; obtain ⟨⟨d0, d1, d2, d3⟩, -⟩ := CM.out x hb; go_simp; exact hK _ _ rfl (Below.refl _ _)
          · intro a x K out get hb hK; obtain ⟨yg, hyg, rfl⟩ := get 6 _ _ rfl rfl (by kernel_rfl); rw [if_pos (by rw [wanted_bool rfl rfl rfl hyg]; rfl)]; clear hyg; obtain ⟨y188, hy188, rfl⟩ := get 12 _ _ rfl rfl (by kernel_rfl); clear out get; go_simp; exact hK _ _ rfl (Below.refl _ _)
          · intro a x K out get hb hK; obtain ⟨yg, hyg, rfl⟩ := get 6 _ _ rfl rfl (by kernel_rfl); rw [if_pos (by rw [wanted_bool rfl rfl rfl hyg]; rfl)]; clear hyg; obtain ⟨y186, hy186, rfl⟩ := get 10 _ _ rfl rfl (by kernel_rfl); obtain ⟨y189, hy189, rfl⟩ := get 13 _ _ rfl rfl (by kernel_rfl); clear out get; (have hw : IntKind.i64.wrap ((m.most : Int) - (m.l.length : Int)) = (m.most : Int) - (m.l.length : Int) := by have := HOKE.out.most; have := HOKE.out.len; rw [IntKind.wrap_i64]; omega); go_simp; exact hK _ _ rfl (Below.refl _ _)
          · intro a x K out get hb hK; obtain ⟨yg, hyg, rfl⟩ := get 6 _ _ rfl rfl (by kernel_rfl); rw [if_pos (by rw [wanted_bool rfl rfl rfl hyg]; rfl)]; clear hyg; obtain ⟨y184, hy184, rfl⟩ := get 8 _ _ rfl rfl (by kernel_rfl); obtain ⟨y190, hy190, rfl⟩ := get 14 _ _ rfl rfl (by kernel_rfl); clear out get; (have hq : (((m.most : Int) - (m.l.length : Int)) == ((m.most : Int) - (m.l.length : Int))) = true := by simp); go_simp; exact hK _ _ rfl (Below.refl _ _)
          · intro a x K out get hb hK; rw [if_pos (wanted_none rfl)]; obtain ⟨y182, hy182, rfl⟩ := get 6 _ _ rfl rfl (by kernel_rfl); obtain ⟨y191, hy191, rfl⟩ := get 15 _ _ rfl rfl (by kernel_rfl); clear out get; go_simp; exact hK _ _ rfl (Below.refl _ _)
          · intro a x K out get hb hK; rw [if_pos (wanted_none rfl)]; obtain ⟨y192, hy192, rfl⟩ := get 16 _ _ rfl rfl (by kernel_rfl); clear out get; go_simp; exact hK _ _ rfl (Below.refl _ _)
          · intro a x K out get hb hK; obtain ⟨yg, hyg, rfl⟩ := get 17 _ _ rfl rfl (by kernel_rfl); rw [if_pos (by rw [wanted_bool rfl rfl rfl hyg]; rfl)]; clear hyg; have o23 : a.tmps[23]? = some (.int .i64 (m.all : Int)) := out 23 (by kernel_rfl); clear out get; go_simp; exact hK _ _ rfl (Below.refl _ _)
          · intro a x K out get hb hK; obtain ⟨yg, hyg, rfl⟩ := get 17 _ _ rfl rfl (by kernel_rfl); rw [if_pos (by rw [wanted_bool rfl rfl rfl hyg]; rfl)]; clear hyg; have o8 : a.tmps[8]? = some (.pointer (some ⟨g8, 0, none⟩)) := out 8 (by kernel_rfl); clear out get; go_simp; exact hK _ _ rfl (Below.refl _ _)
          · intro a x K out get hb hK; obtain ⟨yg, hyg, rfl⟩ := get 17 _ _ rfl rfl (by kernel_rfl); rw [if_pos (by rw [wanted_bool rfl rfl rfl hyg]; rfl)]; clear hyg; obtain ⟨y195, hy195, rfl⟩ := get 19 _ _ rfl rfl (by kernel_rfl); clear out get; obtain ⟨⟨d0, d1, d2, d3⟩, -⟩ := CM.out x hb; go_simp; exact hK _ _ rfl (Below.refl _ _)
          · intro a x K out get hb hK; obtain ⟨yg, hyg, rfl⟩ := get 17 _ _ rfl rfl (by kernel_rfl); rw [if_pos (by rw [wanted_bool rfl rfl rfl hyg]; rfl)]; clear hyg; obtain ⟨y194, hy194, rfl⟩ := get 18 _ _ rfl rfl (by kernel_rfl); obtain ⟨y196, hy196, rfl⟩ := get 20 _ _ rfl rfl (by kernel_rfl); clear out get; (have hq : ((m.all : Int) == (m.all : Int)) = true := by simp); go_simp; exact hK _ _ rfl (Below.refl _ _)
          · intro a x K out get hb hK; rw [if_pos (wanted_none rfl)]; obtain ⟨y193, hy193, rfl⟩ := get 17 _ _ rfl rfl (by kernel_rfl); obtain ⟨y197, hy197, rfl⟩ := get 21 _ _ rfl rfl (by kernel_rfl); clear out get; go_simp; exact hK _ _ rfl (Below.refl _ _)
          · intro a x K out get hb hK; rw [if_pos (wanted_none rfl)]; obtain ⟨y198, hy198, rfl⟩ := get 22 _ _ rfl rfl (by kernel_rfl); clear out get; go_simp; exact hK _ _ rfl (Below.refl _ _)
          · intro a x K out get hb hK; obtain ⟨yg, hyg, rfl⟩ := get 23 _ _ rfl rfl (by kernel_rfl); rw [if_pos (by rw [wanted_bool rfl rfl rfl hyg]; rfl)]; clear hyg; have o24 : a.tmps[24]? = some (.int .i64 (m.met : Int)) := out 24 (by kernel_rfl); clear out get; go_simp; exact hK _ _ rfl (Below.refl _ _)
          · intro a x K out get hb hK; obtain ⟨yg, hyg, rfl⟩ := get 23 _ _ rfl rfl (by kernel_rfl); rw [if_pos (by rw [wanted_bool rfl rfl rfl hyg]; rfl)]; clear hyg; have o8 : a.tmps[8]? = some (.pointer (some ⟨g8, 0, none⟩)) := out 8 (by kernel_rfl); clear out get; go_simp; exact hK _ _ rfl (Below.refl _ _)
          · intro a x K out get hb hK; obtain ⟨yg, hyg, rfl⟩ := get 23 _ _ rfl rfl (by kernel_rfl); rw [if_pos (by rw [wanted_bool rfl rfl rfl hyg]; rfl)]; clear hyg; obtain ⟨y201, hy201, rfl⟩ := get 25 _ _ rfl rfl (by kernel_rfl); clear out get; obtain ⟨⟨d0, d1, d2, d3⟩, -⟩ := CM.out x hb; go_simp; exact hK _ _ rfl (Below.refl _ _)
          · intro a x K out get hb hK; obtain ⟨yg, hyg, rfl⟩ := get 23 _ _ rfl rfl (by kernel_rfl); rw [if_pos (by rw [wanted_bool rfl rfl rfl hyg]; rfl)]; clear hyg; obtain ⟨y200, hy200, rfl⟩ := get 24 _ _ rfl rfl (by kernel_rfl); obtain ⟨y202, hy202, rfl⟩ := get 26 _ _ rfl rfl (by kernel_rfl); clear out get; (have hq : ((m.met : Int) == (m.met : Int)) = true := by simp); go_simp; exact hK _ _ rfl (Below.refl _ _)
          · intro a x K out get hb hK; rw [if_pos (wanted_none rfl)]; obtain ⟨y199, hy199, rfl⟩ := get 23 _ _ rfl rfl (by kernel_rfl); obtain ⟨y203, hy203, rfl⟩ := get 27 _ _ rfl rfl (by kernel_rfl); clear out get; go_simp; exact hK _ _ rfl (Below.refl _ _)
          · intro a x K out get hb hK; rw [if_pos (wanted_none rfl)]; obtain ⟨y204, hy204, rfl⟩ := get 28 _ _ rfl rfl (by kernel_rfl); clear out get; go_simp; exact hK _ _ rfl (Below.refl _ _)
          · intro a x K out get hb hK; obtain ⟨yg, hyg, rfl⟩ := get 29 _ _ rfl rfl (by kernel_rfl); rw [if_pos (by rw [wanted_bool rfl rfl rfl hyg]; rfl)]; clear hyg; clear out get; go_simp; refine (KW.out x hb).mono ?_; rintro e w2 ⟨rfl, hb2⟩; exact hK _ _ rfl hb2
          · intro a x K out get hb hK; rw [if_pos (wanted_none rfl)]; obtain ⟨y205, hy205, rfl⟩ := get 29 _ _ rfl rfl (by kernel_rfl); obtain ⟨y206, hy206, rfl⟩ := get 30 _ _ rfl rfl (by kernel_rfl); clear out get; go_simp; exact hK _ _ rfl (Below.refl _ _)
          · intro a x K out get hb hK; rw [if_pos (wanted_none rfl)]; obtain ⟨y207, hy207, rfl⟩ := get 31 _ _ rfl rfl (by kernel_rfl); clear out get; go_simp; exact hK _ _ rfl (Below.refl _ _)
          refine ao_fin (isD := fun s => (decide (176 ≤ s) && decide (s ≤ 207)) || decide (s = 6)) (by kernel_rfl) ?_; intro f W3 hv hb3; have e6 : f 6 = .bool true := hv 32 _ _ rfl rfl; clear hv; generalize hF : (Act.mk (List.toArray (frm f _ 0 _)) _) = fr; simp [frm] at hF; rw [e6] at hF; subst hF; generalize f 176 = u176 at *; generalize f 177 = u177 at *; generalize f 178 = u178 at *; generalize f 179 = u179 at *; generalize f 180 = u180 at *; generalize f 181 = u181 at *; generalize f 182 = u182 at *; generalize f 183 = u183 at *; generalize f 184 = u184 at *; generalize f 185 = u185 at *; generalize f 186 = u186 at *; generalize f 187 = u187 at *; generalize f 188 = u188 at *; generalize f 189 = u189 at *; generalize f 190 = u190 at *; generalize f 191 = u191 at *; generalize f 192 = u192 at *; generalize f 193 = u193 at *; generalize f 194 = u194 at *; generalize f 195 = u195 at *; generalize f 196 = u196 at *; generalize f 197 = u197 at *; generalize f 198 = u198 at *; generalize f 199 = u199 at *; generalize f 200 = u200 at *; generalize f 201 = u201 at *; generalize f 202 = u202 at *; generalize f 203 = u203 at *; generalize f 204 = u204 at *; generalize f 205 = u205 at *; generalize f 206 = u206 at *; generalize f 207 = u207 at *; clear e6 f; have HE := Lib.hid (HP2.out.below hb3).st.bel; clear hb3 CM KL KR KW HP2; go_wp2; go_ret; exact ⟨rfl, HE.out⟩
        · injection htt with htt1 htt2; subst htt1 htt2; obtain ⟨g, hg⟩ : ∃ g, g = decide (0 ≤ at_) := ⟨_, rfl⟩; have QL := Lib.hid (show g = true → decide (at_ < (m.l.length : Int)) = false from fun e => by rw [hg] at e; simp at e ⊢; omega); have QG := Lib.hid hg.symm; clear HTL hno hg; have CX := Lib.hid fun x (hx : Below W.heap.size W x) => cellsR ((hx.block _ (Array.getElem?_eq_some_iff.1 HX21.out).1).trans HX21.out); have KS := Lib.hid fun x (hx : Below W.heap.size W x) => refSame _ _ _ _ x (HV21.out.below hx) (bareAt (fun _ => True) x 0 Ws.nil (by decide) Ws.nil_ok); rw [show sameR (.node 0 Ws.nil []) (.node 0 Ws.nil []) = true from (sameR_iff _ _).2 rfl] at KS; clear hmr hmc HX21 HV21; go_wp2_with fail; refine wp_region_order (fun j => ([SP.eq (.bool false), SP.eq (.int .i64 at_), SP.eq (.bool g), SP.eq (.bool g), SP.imp g (.int .i64 at_), SP.imp g (.pointer (some ⟨g8, 1, none⟩)), SP.imp g (.slice ma m.l.length mc), SP.imp g (.int .i64 m.l.length), SP.imp g (.bool false), SP.eq (.bool false), SP.eq (.bool false), SP.eq (.bool false), SP.eq (.bool false), SP.eq (.bool false), SP.eq undef, SP.eq undef, SP.eq undef, SP.eq undef, SP.eq undef, SP.eq undef, SP.eq undef, SP.eq undef, SP.eq (.bool false), SP.eq (.bool false), SP.eq (.bool false), SP.eq (.bool false), SP.eq (.bool true), SP.eq (.bool true), SP.eq (.agg #[.int .u8 x0, .int .u64 x1, .int .u64 x2, .int .u64 x3, .int .u64 x4, .slice xl xn xc]), SP.eq (.agg #[.int .u8 0, .int .u64 0, .int .u64 0, .int .u64 0, .int .u64 0, .slice none 0 0]), SP.eq (.bool true), SP.eq (.bool false), SP.eq (.bool false), SP.eq (.bool false)] : List SP).getD j SP.free) (by kernel_rfl) (by kernel_rfl) ⟨?_, ?_, ?_, ?_, ?_, ?_, ?_, ?_, ?_, ?_, ?_, ?_, ?_, ?_, ?_, ?_, ?_, ?_, ?_, ?_, ?_, ?_, ?_, ?_, ?_, ?_, ?_, ?_, ?_, ?_, ?_, ?_, ?_, ?_, trivial⟩ ?_
          · intro a x K out get hb hK; rw [if_pos (wanted_none rfl)]; have o22 : a.tmps[22]? = some (.bool false) := out 22 (by kernel_rfl); clear out get; go_simp; exact hK _ _ rfl (Below.refl _ _)
          · intro a x K out get hb hK; rw [if_pos (wanted_none rfl)]; have o2 : a.tmps[2]? = some (.int .i64 at_) := out 2 (by kernel_rfl); clear out get; go_simp; exact hK _ _ rfl (Below.refl _ _)
          · intro a x K out get hb hK; rw [if_pos (wanted_none rfl)]; obtain ⟨y143, hy143, rfl⟩ := get 1 _ _ rfl rfl (by kernel_rfl); clear out get; have hg := QG.out; go_simp; exact hK _ _ rfl (Below.refl _ _)
          · intro a x K out get hb hK; rw [if_pos (wanted_none rfl)]; obtain ⟨y144, hy144, rfl⟩ := get 2 _ _ rfl rfl (by kernel_rfl); clear out get; go_simp; exact hK _ _ rfl (Below.refl _ _)
          · intro a x K out get hb hK
            cases g with
            | true =>
              obtain ⟨yg, hyg, rfl⟩ := get 3 _ _ rfl rfl (by kernel_rfl); rw [if_pos (by rw [wanted_bool rfl rfl rfl hyg]; rfl)]; clear hyg; have o2 : a.tmps[2]? = some (.int .i64 at_) := out 2 (by kernel_rfl); clear out get; go_simp; exact hK _ _ (fun _ => rfl) (Below.refl _ _)
            | false =>
              obtain ⟨yg, hyg, rfl⟩ := get 3 _ _ rfl rfl (by kernel_rfl); rw [if_neg (by rw [wanted_bool rfl rfl rfl hyg]; decide)]; exact hK _ _ (fun h => by cases h) (Below.refl _ _)
          · intro a x K out get hb hK
            cases g with
            | true =>
              obtain ⟨yg, hyg, rfl⟩ := get 3 _ _ rfl rfl (by kernel_rfl); rw [if_pos (by rw [wanted_bool rfl rfl rfl hyg]; rfl)]; clear hyg; have o8 : a.tmps[8]? = some (.pointer (some ⟨g8, 0, none⟩)) := out 8 (by kernel_rfl); clear out get; go_simp; exact hK _ _ (fun _ => rfl) (Below.refl _ _)
            | false =>
              obtain ⟨yg, hyg, rfl⟩ := get 3 _ _ rfl rfl (by kernel_rfl); rw [if_neg (by rw [wanted_bool rfl rfl rfl hyg]; decide)]; exact hK _ _ (fun h => by cases h) (Below.refl _ _)
          · intro a x K out get hb hK
            cases g with
            | true =>
              obtain ⟨yg, hyg, rfl⟩ := get 3 _ _ rfl rfl (by kernel_rfl); rw [if_pos (by rw [wanted_bool rfl rfl rfl hyg]; rfl)]; clear hyg; obtain ⟨y147, hy147, hp147⟩ := get 5 _ _ rfl rfl (by kernel_rfl); obtain rfl := hp147 rfl; clear out get; obtain ⟨⟨d0, d1, d2, d3⟩, -⟩ := CM.out x hb; go_simp; exact hK _ _ (fun _ => rfl) (Below.refl _ _)
            | false =>
              obtain ⟨yg, hyg, rfl⟩ := get 3 _ _ rfl rfl (by kernel_rfl); rw [if_neg (by rw [wanted_bool rfl rfl rfl hyg]; decide)]; exact hK _ _ (fun h => by cases h) (Below.refl _ _)
          · intro a x K out get hb hK
            cases g with
            | true =>
              obtain ⟨yg, hyg, rfl⟩ := get 3 _ _ rfl rfl (by kernel_rfl); rw [if_pos (by rw [wanted_bool rfl rfl rfl hyg]; rfl)]; clear hyg; obtain ⟨y148, hy148, hp148⟩ := get 6 _ _ rfl rfl (by kernel_rfl); obtain rfl := hp148 rfl; clear out get; go_simp; exact hK _ _ (fun _ => rfl) (Below.refl _ _)
            | false =>
              obtain ⟨yg, hyg, rfl⟩ := get 3 _ _ rfl rfl (by kernel_rfl); rw [if_neg (by rw [wanted_bool rfl rfl rfl hyg]; decide)]; exact hK _ _ (fun h => by cases h) (Below.refl _ _)
          · intro a x K out get hb hK
            cases g with
            | true =>
              obtain ⟨yg, hyg, rfl⟩ := get 3 _ _ rfl rfl (by kernel_rfl); rw [if_pos (by rw [wanted_bool rfl rfl rfl hyg]; rfl)]; clear hyg; obtain ⟨y146, hy146, hp146⟩ := get 4 _ _ rfl rfl (by kernel_rfl); obtain rfl := hp146 rfl; obtain ⟨y149, hy149, hp149⟩ := get 7 _ _ rfl rfl (by kernel_rfl); obtain rfl := hp149 rfl; clear out get; have hl := QL.out rfl; go_simp; exact hK _ _ (fun _ => rfl) (Below.refl _ _)
            | false =>
              obtain ⟨yg, hyg, rfl⟩ := get 3 _ _ rfl rfl (by kernel_rfl); rw [if_neg (by rw [wanted_bool rfl rfl rfl hyg]; decide)]; exact hK _ _ (fun h => by cases h) (Below.refl _ _)
          · intro a x K out get hb hK; rw [if_pos (wanted_none rfl)]
            cases g with
            | true =>
              obtain ⟨y145, hy145, rfl⟩ := get 3 _ _ rfl rfl (by kernel_rfl); obtain ⟨y150, hy150, hp150⟩ := get 8 _ _ rfl rfl (by kernel_rfl); obtain rfl := hp150 rfl; clear out get; go_simp; exact hK _ _ rfl (Below.refl _ _)
            | false =>
              obtain ⟨y145, hy145, rfl⟩ := get 3 _ _ rfl rfl (by kernel_rfl); obtain ⟨y150, hy150, -⟩ := get 8 _ _ rfl rfl (by kernel_rfl); clear out get; go_simp; exact hK _ _ rfl (Below.refl _ _)
          · intro a x K out get hb hK; rw [if_pos (wanted_none rfl)]; obtain ⟨y142, hy142, rfl⟩ := get 0 _ _ rfl rfl (by kernel_rfl); obtain ⟨y151, hy151, rfl⟩ := get 9 _ _ rfl rfl (by kernel_rfl); clear out get; go_simp; exact hK _ _ rfl (Below.refl _ _)
          · intro a x K out get hb hK; rw [if_pos (wanted_none rfl)]; obtain ⟨y152, hy152, rfl⟩ := get 10 _ _ rfl rfl (by kernel_rfl); clear out get; go_simp; exact hK _ _ rfl (Below.refl _ _)
          · intro a x K out get hb hK; obtain ⟨yg, hyg, rfl⟩ := get 11 _ _ rfl rfl (by kernel_rfl); rw [if_pos (by rw [wanted_bool rfl rfl rfl hyg]; rfl)]; clear hyg; have o22 : a.tmps[22]? = some (.bool false) := out 22 (by kernel_rfl); clear out get; go_simp; exact hK _ _ rfl (Below.refl _ _)
          · intro a x K out get hb hK; obtain ⟨yg, hyg, rfl⟩ := get 11 _ _ rfl rfl (by kernel_rfl); rw [if_pos (by rw [wanted_bool rfl rfl rfl hyg]; rfl)]; clear hyg; obtain ⟨y154, hy154, rfl⟩ := get 12 _ _ rfl rfl (by kernel_rfl); clear out get; go_simp; exact hK _ _ rfl (Below.refl _ _)
          · intro a x K out get hb hK; obtain ⟨yg, hyg, rfl⟩ := get 13 _ _ rfl rfl (by kernel_rfl); rw [if_neg (by rw [wanted_bool rfl rfl rfl hyg]; decide)]; exact hK _ _ rfl (Below.refl _ _)
          · intro a x K out get hb hK; obtain ⟨yg, hyg, rfl⟩ := get 13 _ _ rfl rfl (by kernel_rfl); rw [if_neg (by rw [wanted_bool rfl rfl rfl hyg]; decide)]; exact hK _ _ rfl (Below.refl _ _)
          · intro a x K out get hb hK; obtain ⟨yg, hyg, rfl⟩ := get 13 _ _ rfl rfl (by kernel_rfl); rw [if_neg (by rw [wanted_bool rfl rfl rfl hyg]; decide)]; exact hK _ _ rfl (Below.refl _ _)
          · intro a x K out get hb hK; obtain ⟨yg, hyg, rfl⟩ := get 13 _ _ rfl rfl (by kernel_rfl); rw [if_neg (by rw [wanted_bool rfl rfl rfl hyg]; decide)]; exact hK _ _ rfl (Below.refl _ _)
          · intro a x K out get hb hK; obtain ⟨yg, hyg, rfl⟩ := get 13 _ _ rfl rfl (by kernel_rfl); rw [if_neg (by rw [wanted_bool rfl rfl rfl hyg]; decide)]; exact hK _ _ rfl (Below.refl _ _)
          · intro a x K out get hb hK; obtain ⟨yg, hyg, rfl⟩ := get 13 _ _ rfl rfl (by kernel_rfl); rw [if_neg (by rw [wanted_bool rfl rfl rfl hyg]; decide)]; exact hK _ _ rfl (Below.refl _ _)
          · intro a x K out get hb hK; obtain ⟨yg, hyg, rfl⟩ := get 13 _ _ rfl rfl (by kernel_rfl); rw [if_neg (by rw [wanted_bool rfl rfl rfl hyg]; decide)]; exact hK _ _ rfl (Below.refl _ _)
          · intro a x K out get hb hK; obtain ⟨yg, hyg, rfl⟩ := get 13 _ _ rfl rfl (by kernel_rfl); rw [if_neg (by rw [wanted_bool rfl rfl rfl hyg]; decide)]; exact hK _ _ rfl (Below.refl _ _)
          · intro a x K out get hb hK; obtain ⟨yg, hyg, rfl⟩ := get 11 _ _ rfl rfl (by kernel_rfl); rw [if_pos (by rw [wanted_bool rfl rfl rfl hyg]; rfl)]; clear hyg; obtain ⟨y155, hy155, rfl⟩ := get 13 _ _ rfl rfl (by kernel_rfl); obtain ⟨y163, hy163, rfl⟩ := get 21 _ _ rfl rfl (by kernel_rfl); clear out get; go_simp; exact hK _ _ rfl (Below.refl _ _)
          · intro a x K out get hb hK; rw [if_pos (wanted_none rfl)]; obtain ⟨y153, hy153, rfl⟩ := get 11 _ _ rfl rfl (by kernel_rfl); obtain ⟨y164, hy164, rfl⟩ := get 22 _ _ rfl rfl (by kernel_rfl); clear out get; go_simp; exact hK _ _ rfl (Below.refl _ _)
          · intro a x K out get hb hK; rw [if_pos (wanted_none rfl)]; obtain ⟨y165, hy165, rfl⟩ := get 23 _ _ rfl rfl (by kernel_rfl); clear out get; go_simp; exact hK _ _ rfl (Below.refl _ _)
          · intro a x K out get hb hK; obtain ⟨yg, hyg, rfl⟩ := get 24 _ _ rfl rfl (by kernel_rfl); rw [if_pos (by rw [wanted_bool rfl rfl rfl hyg]; rfl)]; clear hyg; have o22 : a.tmps[22]? = some (.bool false) := out 22 (by kernel_rfl); clear out get; go_simp; exact hK _ _ rfl (Below.refl _ _)
          · intro a x K out get hb hK; obtain ⟨yg, hyg, rfl⟩ := get 24 _ _ rfl rfl (by kernel_rfl); rw [if_pos (by rw [wanted_bool rfl rfl rfl hyg]; rfl)]; clear hyg; obtain ⟨y167, hy167, rfl⟩ := get 25 _ _ rfl rfl (by kernel_rfl); clear out get; go_simp; exact hK _ _ rfl (Below.refl _ _)
          · intro a x K out get hb hK; obtain ⟨yg, hyg, rfl⟩ := get 24 _ _ rfl rfl (by kernel_rfl); rw [if_pos (by rw [wanted_bool rfl rfl rfl hyg]; rfl)]; clear hyg; obtain ⟨y168, hy168, rfl⟩ := get 26 _ _ rfl rfl (by kernel_rfl); clear out get; go_simp; exact hK _ _ rfl (Below.refl _ _)
          · intro a x K out get hb hK; obtain ⟨yg, hyg, rfl⟩ := get 27 _ _ rfl rfl (by kernel_rfl); rw [if_pos (by rw [wanted_bool rfl rfl rfl hyg]; rfl)]; clear hyg; have o21 : a.tmps[21]? = some (.pointer (some ⟨g21, 0, none⟩)) := out 21 (by kernel_rfl); clear out get; obtain ⟨c0, c1, c2, c3, c4, c5, -⟩ := CX.out x hb; go_simp; exact hK _ _ rfl (Below.refl _ _)
          · intro a x K out get hb hK; obtain ⟨yg, hyg, rfl⟩ := get 27 _ _ rfl rfl (by kernel_rfl); rw [if_pos (by rw [wanted_bool rfl rfl rfl hyg]; rfl)]; clear hyg; clear out get; go_simp; exact hK _ _ rfl (Below.refl _ _)
          · intro a x K out get hb hK; obtain ⟨yg, hyg, rfl⟩ := get 27 _ _ rfl rfl (by kernel_rfl); rw [if_pos (by rw [wanted_bool rfl rfl rfl hyg]; rfl)]; clear hyg; obtain ⟨y170, hy170, rfl⟩ := get 28 _ _ rfl rfl (by kernel_rfl); obtain ⟨y171, hy171, rfl⟩ := get 29 _ _ rfl rfl (by kernel_rfl); clear out get; go_simp; refine (KS.out x hb).mono ?_; rintro e w2 ⟨rfl, hb2⟩; exact hK _ _ rfl hb2
          · intro a x K out get hb hK; obtain ⟨yg, hyg, rfl⟩ := get 27 _ _ rfl rfl (by kernel_rfl); rw [if_pos (by rw [wanted_bool rfl rfl rfl hyg]; rfl)]; clear hyg; obtain ⟨y172, hy172, rfl⟩ := get 30 _ _ rfl rfl (by kernel_rfl); clear out get; go_simp; exact hK _ _ rfl (Below.refl _ _)
          · intro a x K out get hb hK; obtain ⟨yg, hyg, rfl⟩ := get 24 _ _ rfl rfl (by kernel_rfl); rw [if_pos (by rw [wanted_bool rfl rfl rfl hyg]; rfl)]; clear hyg; obtain ⟨y169, hy169, rfl⟩ := get 27 _ _ rfl rfl (by kernel_rfl); obtain ⟨y173, hy173, rfl⟩ := get 31 _ _ rfl rfl (by kernel_rfl); clear out get; go_simp; exact hK _ _ rfl (Below.refl _ _)
          · intro a x K out get hb hK; rw [if_pos (wanted_none rfl)]; obtain ⟨y166, hy166, rfl⟩ := get 24 _ _ rfl rfl (by kernel_rfl); obtain ⟨y174, hy174, rfl⟩ := get 32 _ _ rfl rfl (by kernel_rfl); clear out get; go_simp; exact hK _ _ rfl (Below.refl _ _)
          refine ao_fin (isD := fun s => decide (142 ≤ s) && decide (s ≤ 175)) (by kernel_rfl) ?_; intro f W2 hv hb2; have e175 : f 175 = .bool false := hv 33 _ _ rfl rfl; clear hv; generalize hF : (Act.mk (List.toArray (frm f _ 0 _)) _) = fr; simp [frm] at hF; rw [e175] at hF; subst hF; generalize f 142 = u142 at *; generalize f 143 = u143 at *; generalize f 144 = u144 at *; generalize f 145 = u145 at *; generalize f 146 = u146 at *; generalize f 147 = u147 at *; generalize f 148 = u148 at *; generalize f 149 = u149 at *; generalize f 150 = u150 at *; generalize f 151 = u151 at *; generalize f 152 = u152 at *; generalize f 153 = u153 at *; generalize f 154 = u154 at *; generalize f 155 = u155 at *; generalize f 156 = u156 at *; generalize f 157 = u157 at *; generalize f 158 = u158 at *; generalize f 159 = u159 at *; generalize f 160 = u160 at *; generalize f 161 = u161 at *; generalize f 162 = u162 at *; generalize f 163 = u163 at *; generalize f 164 = u164 at *; generalize f 165 = u165 at *; generalize f 166 = u166 at *; generalize f 167 = u167 at *; generalize f 168 = u168 at *; generalize f 169 = u169 at *; generalize f 170 = u170 at *; generalize f 171 = u171 at *; generalize f 172 = u172 at *; generalize f 173 = u173 at *; generalize f 174 = u174 at *; clear e175 f; have HP2 := Lib.hid (HPW.out.below hb2); clear hb2 HPW CM CX KS; obtain ⟨ma, mc, hblk, -, -⟩ := HP2.out.ref; have CM := Lib.hid fun x (hx : Below W2.heap.size W2 x) => cellsM ((hx.block _ (Array.getElem?_eq_some_iff.1 hblk).1).trans hblk); have KL := Lib.hid fun x (hx : Below W2.heap.size W2 x) => I.len m p X1 x HOKE.out (HP2.out.below hx).st.at_; have KR := Lib.hid fun x (hx : Below W2.heap.size W2 x) => I.room m p X1 x HOKE.out (HP2.out.below hx).st.at_; have KW := Lib.hid fun x (hx : Below W2.heap.size W2 x) => KA.out x (HP2.out.below hx).st.bel; clear hblk; go_wp2_with fail; refine wp_region_order (fun j => ([SP.eq (p), SP.eq (.int .i64 (m.l.length : Int)), SP.eq (.pointer (some ⟨g8, 1, none⟩)), SP.eq (.slice ma m.l.length mc), SP.eq (.int .i64 (m.l.length : Int)), SP.eq (.bool true), SP.eq (.bool true), SP.eq (p), SP.eq (.int .i64 ((m.most : Int) - (m.l.length : Int))), SP.eq (.pointer (some ⟨g8, 0, none⟩)), SP.eq (.int .i64 (m.most : Int)), SP.eq (.pointer (some ⟨g8, 1, none⟩)), SP.eq (.slice ma m.l.length mc), SP.eq (.int .i64 (m.l.length : Int)), SP.eq (.int .i64 ((m.most : Int) - (m.l.length : Int))), SP.eq (.bool true), SP.eq (.bool true), SP.eq (.bool true), SP.eq (.int .i64 (m.all : Int)), SP.eq (.pointer (some ⟨g8, 2, none⟩)), SP.eq (.int .i64 (m.all : Int)), SP.eq (.bool true), SP.eq (.bool true), SP.eq (.bool true), SP.eq (.int .i64 (m.met : Int)), SP.eq (.pointer (some ⟨g8, 3, none⟩)), SP.eq (.int .i64 (m.met : Int)), SP.eq (.bool true), SP.eq (.bool true), SP.eq (.bool true), SP.eq (.bool true), SP.eq (.bool true), SP.eq (.bool true)] : List SP).getD j SP.free) (by kernel_rfl) (by kernel_rfl) ⟨?_, ?_, ?_, ?_, ?_, ?_, ?_, ?_, ?_, ?_, ?_, ?_, ?_, ?_, ?_, ?_, ?_, ?_, ?_, ?_, ?_, ?_, ?_, ?_, ?_, ?_, ?_, ?_, ?_, ?_, ?_, ?_, ?_, trivial⟩ ?_
          · intro a x K out get hb hK; rw [if_pos (wanted_none rfl)]; have o7 : a.tmps[7]? = some (p) := out 7 (by kernel_rfl); clear out get; go_simp; exact hK _ _ rfl (Below.refl _ _)
          · intro a x K out get hb hK; rw [if_pos (wanted_none rfl)]; obtain ⟨y176, hy176, rfl⟩ := get 0 _ _ rfl rfl (by kernel_rfl); clear out get; go_simp; refine (KL.out x hb).mono ?_; rintro e w2 ⟨rfl, hb2⟩; exact hK _ _ rfl hb2
          · intro a x K out get hb hK; rw [if_pos (wanted_none rfl)]; have o8 : a.tmps[8]? = some (.pointer (some ⟨g8, 0, none⟩)) := out 8 (by kernel_rfl); clear out get; go_simp; exact hK _ _ rfl (Below.refl _ _)
          · intro a x K out get hb hK; rw [if_pos (wanted_none rfl)]; obtain ⟨y178, hy178, rfl⟩ := get 2 _ _ rfl rfl (by kernel_rfl); clear out get; obtain ⟨⟨d0, d1, d2, d3⟩, -⟩ := CM.out x hb; go_simp; exact hK _ _ rfl (Below.refl _ _)
          · intro a x K out get hb hK; rw [if_pos (wanted_none rfl)]; obtain ⟨y179, hy179, rfl⟩ := get 3 _ _ rfl rfl (by kernel_rfl); clear out get; go_simp; exact hK _ _ rfl (Below.refl _ _)
          · intro a x K out get hb hK; rw [if_pos (wanted_none rfl)]; obtain ⟨y177, hy177, rfl⟩ := get 1 _ _ rfl rfl (by kernel_rfl); obtain ⟨y180, hy180, rfl⟩ := get 4 _ _ rfl rfl (by kernel_rfl); clear out get; (have hq : ((m.l.length : Int) == (m.l.length : Int)) = true := by simp); go_simp; exact hK _ _ rfl (Below.refl _ _)
          · intro a x K out get hb hK; rw [if_pos (wanted_none rfl)]; obtain ⟨y181, hy181, rfl⟩ := get 5 _ _ rfl rfl (by kernel_rfl); clear out get; go_simp; exact hK _ _ rfl (Below.refl _ _)
          · intro a x K out get hb hK; obtain ⟨yg, hyg, rfl⟩ := get 6 _ _ rfl rfl (by kernel_rfl); rw [if_pos (by rw [wanted_bool rfl rfl rfl hyg]; rfl)]; clear hyg; have o7 : a.tmps[7]? = some (p) := out 7 (by kernel_rfl); clear out get; go_simp; exact hK _ _ rfl (Below.refl _ _)
          · intro a x K out get hb hK; obtain ⟨yg, hyg, rfl⟩ := get 6 _ _ rfl rfl (by kernel_rfl); rw [if_pos (by rw [wanted_bool rfl rfl rfl hyg]; rfl)]; clear hyg; obtain ⟨y183, hy183, rfl⟩ := get 7 _ _ rfl rfl (by kernel_rfl); clear out get; go_simp; refine (KR.out x hb).mono ?_; rintro e w2 ⟨rfl, hb2⟩; exact hK _ _ rfl hb2
          · intro a x K out get hb hK; obtain ⟨yg, hyg, rfl⟩ := get 6 _ _ rfl rfl (by kernel_rfl); rw [if_pos (by rw [wanted_bool rfl rfl rfl hyg]; rfl)]; clear hyg; have o8 : a.tmps[8]? = some (.pointer (some ⟨g8, 0, none⟩)) := out 8 (by kernel_rfl); clear out get; go_simp; exact hK _ _ rfl (Below.refl _ _)
          · intro a x K out get hb hK; obtain ⟨yg, hyg, rfl⟩ := get 6 _ _ rfl rfl (by kernel_rfl); rw [if_pos (by rw [wanted_bool rfl rfl rfl hyg]; rfl)]; clear hyg; obtain ⟨y185, hy185, rfl⟩ := get 9 _ _ rfl rfl (by kernel_rfl); clear out get; obtain ⟨⟨d0, d1, d2, d3⟩, -⟩ := CM.out x hb; go_simp; exact hK _ _ rfl (Below.refl _ _)
          · intro a x K out get hb hK; obtain ⟨yg, hyg, rfl⟩ := get 6 _ _ rfl rfl (by kernel_rfl); rw [if_pos (by rw [wanted_bool rfl rfl rfl hyg]; rfl)]; clear hyg; have o8 : a.tmps[8]? = some (.pointer (some ⟨g8, 0, none⟩)) := out 8 (by kernel_rfl); clear out get; go_simp; exact hK _ _ rfl (Below.refl _ _)
          · intro a x K out get hb hK; obtain ⟨yg, hyg, rfl⟩ := get 6 _ _ rfl rfl (by kernel_rfl); rw [if_pos (by rw [wanted_bool rfl rfl rfl hyg]; rfl)]; clear hyg; obtain ⟨y187, hy187, rfl⟩ := get 11 _ _ rfl rfl (by kernel_rfl); clear out get; obtain ⟨⟨d0, d1, d2, d3⟩, -⟩ := CM.out x hb; go_simp; exact hK _ _ rfl (Below.refl _ _)
          · intro a x K out get hb hK; obtain ⟨yg, hyg, rfl⟩ := get 6 _ _ rfl rfl (by kernel_rfl); rw [if_pos (by rw [wanted_bool rfl rfl rfl hyg]; rfl)]; clear hyg; obtain ⟨y188, hy188, rfl⟩ := get 12 _ _ rfl rfl (by kernel_rfl); clear out get; go_simp; exact hK _ _ rfl (Below.refl _ _)
          · intro a x K out get hb hK; obtain ⟨yg, hyg, rfl⟩ := get 6 _ _ rfl rfl (by kernel_rfl); rw [if_pos (by rw [wanted_bool rfl rfl rfl hyg]; rfl)]; clear hyg; obtain ⟨y186, hy186, rfl⟩ := get 10 _ _ rfl rfl (by kernel_rfl); obtain ⟨y189, hy189, rfl⟩ := get 13 _ _ rfl rfl (by kernel_rfl); clear out get; (have hw : IntKind.i64.wrap ((m.most : Int) - (m.l.length : Int)) = (m.most : Int) - (m.l.length : Int) := by have := HOKE.out.most; have := HOKE.out.len; rw [IntKind.wrap_i64]; omega); go_simp; exact hK _ _ rfl (Below.refl _ _)
          · intro a x K out get hb hK; obtain ⟨yg, hyg, rfl⟩ := get 6 _ _ rfl rfl (by kernel_rfl); rw [if_pos (by rw [wanted_bool rfl rfl rfl hyg]; rfl)]; clear hyg; obtain ⟨y184, hy184, rfl⟩ := get 8 _ _ rfl rfl (by kernel_rfl); obtain ⟨y190, hy190, rfl⟩ := get 14 _ _ rfl rfl (by kernel_rfl); clear out get; (have hq : (((m.most : Int) - (m.l.length : Int)) == ((m.most : Int) - (m.l.length : Int))) = true := by simp); go_simp; exact hK _ _ rfl (Below.refl _ _)
          · intro a x K out get hb hK; rw [if_pos (wanted_none rfl)]; obtain ⟨y182, hy182, rfl⟩ := get 6 _ _ rfl rfl (by kernel_rfl); obtain ⟨y191, hy191, rfl⟩ := get 15 _ _ rfl rfl (by kernel_rfl); clear out get; go_simp; exact hK _ _ rfl (Below.refl _ _)
          · intro a x K out get hb hK; rw [if_pos (wanted_none rfl)]; obtain ⟨y192, hy192, rfl⟩ := get 16 _ _ rfl rfl (by kernel_rfl); clear out get; go_simp; exact hK _ _ rfl (Below.refl _ _)
          · intro a x K out get hb hK; obtain ⟨yg, hyg, rfl⟩ := get 17 _ _ rfl rfl (by kernel_rfl); rw [if_pos (by rw [wanted_bool rfl rfl rfl hyg]; rfl)]; clear hyg; have o23 : a.tmps[23]? = some (.int .i64 (m.all : Int)) := out 23 (by kernel_rfl); clear out get; go_simp; exact hK _ _ rfl (Below.refl _ _)
          · intro a x K out get hb hK; obtain ⟨yg, hyg, rfl⟩ := get 17 _ _ rfl rfl (by kernel_rfl); rw [if_pos (by rw [wanted_bool rfl rfl rfl hyg]; rfl)]; clear hyg; have o8 : a.tmps[8]? = some (.pointer (some ⟨g8, 0, none⟩)) := out 8 (by kernel_rfl); clear out get; go_simp; exact hK _ _ rfl (Below.refl _ _)
          · intro a x K out get hb hK; obtain ⟨yg, hyg, rfl⟩ := get 17 _ _ rfl rfl (by kernel_rfl); rw [if_pos (by rw [wanted_bool rfl rfl rfl hyg]; rfl)]; clear hyg; obtain ⟨y195, hy195, rfl⟩ := get 19 _ _ rfl rfl (by kernel_rfl); clear out get; obtain ⟨⟨d0, d1, d2, d3⟩, -⟩ := CM.out x hb; go_simp; exact hK _ _ rfl (Below.refl _ _)
          · intro a x K out get hb hK; obtain ⟨yg, hyg, rfl⟩ := get 17 _ _ rfl rfl (by kernel_rfl); rw [if_pos (by rw [wanted_bool rfl rfl rfl hyg]; rfl)]; clear hyg; obtain ⟨y194, hy194, rfl⟩ := get 18 _ _ rfl rfl (by kernel_rfl); obtain ⟨y196, hy196, rfl⟩ := get 20 _ _ rfl rfl (by kernel_rfl); clear out get; (have hq : ((m.all : Int) == (m.all : Int)) = true := by simp); go_simp; exact hK _ _ rfl (Below.refl _ _)
          · intro a x K out get hb hK; rw [if_pos (wanted_none rfl)]; obtain ⟨y193, hy193, rfl⟩ := get 17 _ _ rfl rfl (by kernel_rfl); obtain ⟨y197, hy197, rfl⟩ := get 21 _ _ rfl rfl (by kernel_rfl); clear out get; go_simp; exact hK _ _ rfl (Below.refl _ _)
          · intro a x K out get hb hK; rw [if_pos (wanted_none rfl)]; obtain ⟨y198, hy198, rfl⟩ := get 22 _ _ rfl rfl (by kernel_rfl); clear out get; go_simp; exact hK _ _ rfl (Below.refl _ _)
          · intro a x K out get hb hK; obtain ⟨yg, hyg, rfl⟩ := get 23 _ _ rfl rfl (by kernel_rfl); rw [if_pos (by rw [wanted_bool rfl rfl rfl hyg]; rfl)]; clear hyg; have o24 : a.tmps[24]? = some (.int .i64 (m.met : Int)) := out 24 (by kernel_rfl); clear out get; go_simp; exact hK _ _ rfl (Below.refl _ _)
          · intro a x K out get hb hK; obtain ⟨yg, hyg, rfl⟩ := get 23 _ _ rfl rfl (by kernel_rfl); rw [if_pos (by rw [wanted_bool rfl rfl rfl hyg]; rfl)]; clear hyg; have o8 : a.tmps[8]? = some (.pointer (some ⟨g8, 0, none⟩)) := out 8 (by kernel_rfl); clear out get; go_simp; exact hK _ _ rfl (Below.refl _ _)
          · intro a x K out get hb hK; obtain ⟨yg, hyg, rfl⟩ := get 23 _ _ rfl rfl (by kernel_rfl); rw [if_pos (by rw [wanted_bool rfl rfl rfl hyg]; rfl)]; clear hyg; obtain ⟨y201, hy201, rfl⟩ := get 25 _ _ rfl rfl (by kernel_rfl); clear out get; obtain ⟨⟨d0, d1, d2, d3⟩, -⟩ := CM.out x hb; go_simp; exact hK _ _ rfl (Below.refl _ _)
          · intro a x K out get hb hK; obtain ⟨yg, hyg, rfl⟩ := get 23 _ _ rfl rfl (by kernel_rfl); rw [if_pos (by rw [wanted_bool rfl rfl rfl hyg]; rfl)]; clear hyg; obtain ⟨y200, hy200, rfl⟩ := get 24 _ _ rfl rfl (by kernel_rfl); obtain ⟨y202, hy202, rfl⟩ := get 26 _ _ rfl rfl (by kernel_rfl); clear out get; (have hq : ((m.met : Int) == (m.met : Int)) = true := by simp); go_simp; exact hK _ _ rfl (Below.refl _ _)
          · intro a x K out get hb hK; rw [if_pos (wanted_none rfl)]; obtain ⟨y199, hy199, rfl⟩ := get 23 _ _ rfl rfl (by kernel_rfl); obtain ⟨y203, hy203, rfl⟩ := get 27 _ _ rfl rfl (by kernel_rfl); clear out get; go_simp; exact hK _ _ rfl (Below.refl _ _)
          · intro a x K out get hb hK; rw [if_pos (wanted_none rfl)]; obtain ⟨y204, hy204, rfl⟩ := get 28 _ _ rfl rfl (by kernel_rfl); clear out get; go_simp; exact hK _ _ rfl (Below.refl _ _)
          · intro a x K out get hb hK; obtain ⟨yg, hyg, rfl⟩ := get 29 _ _ rfl rfl (by kernel_rfl); rw [if_pos (by rw [wanted_bool rfl rfl rfl hyg]; rfl)]; clear hyg; clear out get; go_simp; refine (KW.out x hb).mono ?_; rintro e w2 ⟨rfl, hb2⟩; exact hK _ _ rfl hb2
          · intro a x K out get hb hK; rw [if_pos (wanted_none rfl)]; obtain ⟨y205, hy205, rfl⟩ := get 29 _ _ rfl rfl (by kernel_rfl); obtain ⟨y206, hy206, rfl⟩ := get 30 _ _ rfl rfl (by kernel_rfl); clear out get; go_simp; exact hK _ _ rfl (Below.refl _ _)
          · intro a x K out get hb hK; rw [if_pos (wanted_none rfl)]; obtain ⟨y207, hy207, rfl⟩ := get 31 _ _ rfl rfl (by kernel_rfl); clear out get; go_simp; exact hK _ _ rfl (Below.refl _ _)
          refine ao_fin (isD := fun s => (decide (176 ≤ s) && decide (s ≤ 207)) || decide (s = 6)) (by kernel_rfl) ?_; intro f W3 hv hb3; have e6 : f 6 = .bool true := hv 32 _ _ rfl rfl; clear hv; generalize hF : (Act.mk (List.toArray (frm f _ 0 _)) _) = fr; simp [frm] at hF; rw [e6] at hF; subst hF; generalize f 176 = u176 at *; generalize f 177 = u177 at *; generalize f 178 = u178 at *; generalize f 179 = u179 at *; generalize f 180 = u180 at *; generalize f 181 = u181 at *; generalize f 182 = u182 at *; generalize f 183 = u183 at *; generalize f 184 = u184 at *; generalize f 185 = u185 at *; generalize f 186 = u186 at *; generalize f 187 = u187 at *; generalize f 188 = u188 at *; generalize f 189 = u189 at *; generalize f 190 = u190 at *; generalize f 191 = u191 at *; generalize f 192 = u192 at *; generalize f 193 = u193 at *; generalize f 194 = u194 at *; generalize f 195 = u195 at *; generalize f 196 = u196 at *; generalize f 197 = u197 at *; generalize f 198 = u198 at *; generalize f 199 = u199 at *; generalize f 200 = u200 at *; generalize f 201 = u201 at *; generalize f 202 = u202 at *; generalize f 203 = u203 at *; generalize f 204 = u204 at *; generalize f 205 = u205 at *; generalize f 206 = u206 at *; generalize f 207 = u207 at *; clear e6 f; have HE := Lib.hid (HP2.out.below hb3).st.bel; clear hb3 CM KL KR KW HP2; go_wp2; go_ret; exact ⟨rfl, HE.out⟩
end Go.Proofs.YthgghaaddankoaaGreatDoor
/- Lemmas of mine. -/
namespace Go.Proofs.YthgghaaddankoaaGreatDoor
open Go.RowKit Go.Maps
theorem keyed_str : Keyed Tryz.prog 9 := string_keyed Tryz.underlying9
theorem zero_int (w : World) : (zeroValue 3).run Tryz.prog w = .ok (.int .i64 0) w := by kernel_rfl
def FormE (x : Rx) : Prop := ∃ e : Ex, e.rx = x ∧ e.Wf ∧ e.size ≤ 2000
theorem FormE.text {x : Rx} (h : FormE x) : ∃ e : Ex, e.rx = x ∧ e.Wf ∧ e.size ≤ 2000 ∧ textX x = e.text := by
  obtain ⟨e, rfl, we, hs⟩ := h; exact ⟨e, rfl, we, hs, textX_yes (ex_may we hs)⟩
theorem FormE.inj {x y : Rx} (hx : FormE x) (hy : FormE y) (h : textX x = textX y) : x = y := by
  obtain ⟨e, rfl, we, _, h1⟩ := hx.text; obtain ⟨f, rfl, wf, _, h2⟩ := hy.text; rw [h1, h2] at h; rw [text_inj we wf h]
theorem form_norm {ok : Nat → Prop} {w : World} {v : Value} {r : Rx} (h : ReAt ok w v r) (hm : mayR r = true) : FormE (normX r) := by
  obtain ⟨e, rfl, we, hs⟩ := may_ex h hm; exact ⟨nfE e, (normX_of we hs).symm, nf_wf e we, Nat.le_trans (nf_size e) hs⟩
noncomputable def keyL (x : Rx) : Lit := .string (textX x)
def numD (i : Int) : DataW Unit := .lit (.int .i64 i)
theorem key_lit (x : Rx) : WideAt.IsKeyLit (keyL x) := by trivial
theorem key_of {x : Rx} (h : (textX x).length ≤ maxLen) : keyOf Tryz.prog 9 (.string ⟨(textX x).toArray⟩) = some (keyL x) := by
  rw [WideMaps.keyOf_string_mk Tryz.underlying9 (by simpa [ByteArray.size] using h)]
  rfl
structure MapIs (l : List Rx) (D : DataW Unit) : Prop where
  map : IsMap D
  hit : ∀ (i : Nat) (x : Rx), l[i]? = some x → D.atKey (keyL x) (numD 0) = numD i ∧ has D (keyL x) = true
  miss : ∀ x : Rx, FormE x → x ∉ l → has D (keyL x) = false
theorem MapIs.none : MapIs [] (.map []) := ⟨isMap_empty, fun i x h => by simp at h, fun x _ _ => rfl⟩
theorem MapIs.look {l : List Rx} {D : DataW Unit} (h : MapIs l D) {x : Rx} (hx : FormE x) : has D (keyL x) = decide (0 ≤ placeI l x) ∧ D.atKey (keyL x) (numD 0) = numD (if 0 ≤ placeI l x then placeI l x else 0) := by
  rcases placeI_cases l x with ⟨i, e, hi, h1, _⟩ | ⟨e, hn⟩
  · obtain ⟨a, b⟩ := h.hit i x h1; rw [e, if_pos (by omega), b, a]; exact ⟨by simp, rfl⟩
  · have a := h.miss x hx hn; rw [e, if_neg (by decide), a]; exact ⟨rfl, atKey_of_not_has a _⟩
theorem MapIs.put {l : List Rx} {D : DataW Unit} (h : MapIs l D) (hl : ∀ y ∈ l, FormE y) {x : Rx} (hx : FormE x) (hn : x ∉ l) : MapIs (l ++ [x]) (D.put (keyL x) (numD l.length)) := by
  have hne : ∀ y, FormE y → y ≠ x → keyL y ≠ keyL x := fun y hy hyx e => hyx (hy.inj hx (by simpa [keyL] using e)); refine ⟨h.map.put _ _, fun i y hy => ?_, fun y hy hyn => ?_⟩
  · rcases Nat.lt_or_ge i l.length with hi | hi
    · rw [List.getElem?_append_left hi] at hy; have hm := List.mem_of_getElem? hy; have hyx : y ≠ x := fun e => hn (e ▸ hm); obtain ⟨a, b⟩ := h.hit i y hy; rw [atKey_put_other (hne y (hl y hm) hyx), has_put_other (hne y (hl y hm) hyx)]; exact ⟨a, b⟩
    · rw [List.getElem?_append_right hi] at hy
      have hi' : i - l.length = 0 := by
        have := (List.getElem?_eq_some_iff.1 hy).1; simp at this; omega
      rw [hi'] at hy; simp at hy; subst hy; (have : i = l.length := by omega); subst this; exact ⟨atKey_put_same h.map (key_lit _) _ _, has_put_same h.map (key_lit _) _⟩
  · simp at hyn; rw [has_put_other (hne y hy hyn.2)]; exact h.miss y hy hyn.1
def MapAt (w : World) (bm : Nat) (l : List Rx) : Prop := ∃ D : DataW Unit, w.ownsMap Tryz.prog 9 (plainElem Tryz.prog 3) bm l.length D ∧ MapIs l D
theorem MapAt.lt {w : World} {bm : Nat} {l : List Rx} (h : MapAt w bm l) : bm < w.heap.size := by
  obtain ⟨D, h1, _⟩ := h; exact h1.lt
theorem MapAt.of {w w' : World} {bm : Nat} {l : List Rx} (h : MapAt w bm l) (e : w'.heap[bm]? = w.heap[bm]?) : MapAt w' bm l := by
  obtain ⟨D, ⟨es, c, h1, r⟩, h2⟩ := h; exact ⟨D, ⟨es, c, e.trans h1, r⟩, h2⟩
theorem MapAt.made {w : World} {bm : Nat} (h : w.heap[bm]? = some (.map #[] 0)) : MapAt w bm [] := by
  refine ⟨.map [], ?_, MapIs.none⟩; obtain ⟨es, c, h1, h2⟩ := World.ownsMap_made (H := Unit) w Tryz.prog 9 (plainElem Tryz.prog 3); rw [blk_new] at h1; injection h1 with h1; injection h1 with h1 h3; subst h1 h3; exact ⟨_, _, h, h2⟩
end Go.Proofs.YthgghaaddankoaaGreatDoor
/- Lemmas of mine. -/
namespace Go.Proofs.YthgghaaddankoaaGreatDoor
open Go.RowKit Go.Maps
def RowF (K : Nat → Prop) (w : World) (v : Value) (l : List Rx) : Prop := ∃ xs, w.ownsRow 0 39 6 v l.length xs ∧ RowVals K w xs l
structure MemoAt (X : Nat → Prop) (w : World) (mb : Nat) (v mv : Value) (d : Int) (K : Nat → Prop) (m : MM) : Prop where
  blk : MemB w mb (.int .i64 m.most) v (.int .u32 d) (.int .i32 0) (.int .u32 0) mv (.int .i64 m.all) (.int .i64 m.met)
  memo : X mb
  lt : ∀ x, X x → x < w.heap.size
  row : RowF K w v m.l
  rowX : ∀ f, v.ownBlock = some f → X f ∧ f ≠ mb
  kids : ∀ b, K b → X b ∧ b ≠ mb ∧ v.ownBlock ≠ some b
  map : (d = 0 ∧ mv = .map none ∧ m.l = []) ∨ (d = 1 ∧ ∃ bm, mv = .map (some bm) ∧ X bm ∧ bm ≠ mb ∧ v.ownBlock ≠ some bm ∧ ¬ K bm ∧ MapAt w bm m.l)
  forms : ∀ x ∈ m.l, FormE x
def LandAt (X : Nat → Prop) (w : World) (p : Value) (m : MM) : Prop := ∃ mb v mv d K, p = .pointer (some ⟨mb, 0, none⟩) ∧ MemoAt X w mb v mv d K m
section
variable {X : Nat → Prop} {w w' : World} {mb : Nat} {v mv : Value} {d : Int} {K : Nat → Prop} {m : MM}
theorem RowF.go {K' : Nat → Prop} {l : List Rx} (h : RowF K w v l) (hs : w.heap.size ≤ w'.heap.size) (hv : ∀ f, v.ownBlock = some f → w'.heap[f]? = w.heap[f]?) (hk : ∀ b, K b → K' b ∧ w'.heap[b]? = w.heap[b]?) : RowF K' w' v l := by
  obtain ⟨xs, h1, h2⟩ := h; exact ⟨xs, own_go h1 fun f hf _ => hv f hf, h2.go ⟨hs, fun b _ hb => hk b hb⟩⟩
theorem MemoAt.keep (h : MemoAt X w mb v mv d K m) (hs : w.heap.size ≤ w'.heap.size) (hk : ∀ x, X x → w'.heap[x]? = w.heap[x]?) : MemoAt X w' mb v mv d K m where
  blk := h.blk.of (hk mb h.memo)
  memo := h.memo
  lt := fun x hx => Nat.lt_of_lt_of_le (h.lt x hx) hs
  row := h.row.go hs (fun f hf => hk f (h.rowX f hf).1) fun b hb => ⟨hb, hk b (h.kids b hb).1⟩
  rowX := h.rowX
  kids := h.kids
  map := by
    rcases h.map with h1 | ⟨h1, bm, h2, h3, h4, h5, h6, h7⟩
    · exact .inl h1
    · exact .inr ⟨h1, bm, h2, h3, h4, h5, h6, h7.of (hk bm h3)⟩
  forms := h.forms
theorem MemoAt.below (h : MemoAt X w mb v mv d K m) (hb : Below w.heap.size w w') : MemoAt X w' mb v mv d K m := h.keep hb.size fun x hx => hb.block x (h.lt x hx)
theorem MemoAt.wide {Y : Nat → Prop} (h : MemoAt X w mb v mv d K m) (hY : ∀ x, X x → Y x) (hl : ∀ x, Y x → x < w.heap.size) : MemoAt Y w mb v mv d K m where
  blk := h.blk
  memo := hY _ h.memo
  lt := hl
  row := h.row
  rowX := fun f hf => ⟨hY _ (h.rowX f hf).1, (h.rowX f hf).2⟩
  kids := fun b hb => ⟨hY _ (h.kids b hb).1, (h.kids b hb).2⟩
  map := by
    rcases h.map with h1 | ⟨h1, bm, h2, h3, h4⟩
    · exact .inl h1
    · exact .inr ⟨h1, bm, h2, hY _ h3, h4⟩
  forms := h.forms
theorem MemoAt.count {all met : Nat} (h : MemoAt X w mb v mv d K m) (hf : Fm (At1 mb) w w') (hB : MemB w' mb (.int .i64 m.most) v (.int .u32 d) (.int .i32 0) (.int .u32 0) mv (.int .i64 all) (.int .i64 met)) : MemoAt X w' mb v mv d K ⟨m.most, m.l, all, met⟩ where
  blk := hB
  memo := h.memo
  lt := fun x hx => Nat.lt_of_lt_of_le (h.lt x hx) hf.size
  row := by
    obtain ⟨xs, h1, h2⟩ := h.row; exact ⟨xs, own_go h1 fun f hf' hl => hf.block f hl (h.rowX f hf').2, h2.go ⟨hf.size, fun b hl hb => ⟨hb, hf.block b hl (h.kids b hb).2.1⟩⟩⟩
  rowX := h.rowX
  kids := h.kids
  map := by
    rcases h.map with h1 | ⟨h1, bm, h2, h3, h4, h5, h6, h7⟩
    · exact .inl h1
    · exact .inr ⟨h1, bm, h2, h3, h4, h5, h6, h7.of (hf.block bm h7.lt h4)⟩
  forms := h.forms
theorem MemoAt.form (h : MemoAt X w mb v mv d K m) : ∃ al cap, v = .slice al m.l.length cap := by
  obtain ⟨xs, h1, _⟩ := h.row; exact own_form h1
theorem len_land (h : MemoAt X w mb v mv d K m) : Calls Tryz.prog 18 #[.pointer (some ⟨mb, 0, none⟩)] w fun e w' => e = .returned (.int .i64 (m.l.length : Int)) ∧ w' = w := by
  obtain ⟨al, cap, rfl⟩ := h.form; obtain ⟨⟨-, a1, -, -⟩, -, -⟩ := h.blk.cells; clear h; go_enter Tryz.func18, Tryz.ntmps18; go_wp2; go_ret; exact ⟨rfl, rfl⟩
theorem room_land (h : MemoAt X w mb v mv d K m) (h1 : m.most ≤ 10000) (h2 : m.l.length ≤ m.most) : Calls Tryz.prog 19 #[.pointer (some ⟨mb, 0, none⟩)] w fun e w' => e = .returned (.int .i64 ((m.most : Int) - (m.l.length : Int))) ∧ Below w.heap.size w w' := by
  obtain ⟨al, cap, rfl⟩ := h.form; obtain ⟨⟨a0, a1, -, -⟩, -, -⟩ := h.blk.cells; clear h; go_enter Tryz.func19, Tryz.ntmps19; go_wp2
  go_region
  all_goals (go_wp2; go_ret; exact ⟨rfl, (Below.refl _ w).drew⟩)
set_option maxRecDepth 100000 in
theorem asked_land (h : MemoAt X w mb v mv d K m) : Calls Tryz.prog 16 #[.pointer (some ⟨mb, 0, none⟩)] w fun e w' => e = .returned (.tuple #[.int .i64 (m.all : Int), .int .i64 (m.met : Int)]) ∧ Below w.heap.size w w' := by
  have KA := Lib.hid fun W (hb : Below w.heap.size w W) => (load64 mb 6 m.all W ((h.blk.below hb).cells.2.1.2.2.1)).mono fun e w' h => (show e = _ ∧ Below W.heap.size W w' from ⟨h.1, h.2 ▸ Below.refl _ _⟩); have KB := Lib.hid fun W (hb : Below w.heap.size w W) => (load64 mb 7 m.met W ((h.blk.below hb).cells.2.1.2.2.2)).mono fun e w' h => (show e = _ ∧ Below W.heap.size W w' from ⟨h.1, h.2 ▸ Below.refl _ _⟩); clear h; go_enter Tryz.func16, Tryz.ntmps16; go_wp2; refine wp_region_order (fun j => ([SP.eq (.pointer (some ⟨mb, 0, none⟩)), SP.eq (.pointer (some ⟨mb, 0, none⟩)), SP.eq (.pointer (some ⟨mb, 6, none⟩)), SP.eq (.int .i64 (m.all : Int)), SP.eq (.pointer (some ⟨mb, 0, none⟩)), SP.eq (.pointer (some ⟨mb, 0, none⟩)), SP.eq (.pointer (some ⟨mb, 7, none⟩)), SP.eq (.int .i64 (m.met : Int)), SP.eq (.int .i64 (m.all : Int)), SP.eq (.int .i64 (m.met : Int))] : List SP).getD j SP.free) (by kernel_rfl) (by kernel_rfl) ⟨?_, ?_, ?_, ?_, ?_, ?_, ?_, ?_, ?_, ?_, trivial⟩ ?_
  · intro a x K out get hb hK; rw [if_pos (wanted_none rfl)]; have o0 : a.tmps[0]? = some (.pointer (some ⟨mb, 0, none⟩)) := out 0 (by kernel_rfl); clear out get; go_simp; exact hK _ _ rfl (Below.refl _ _)
  · intro a x K out get hb hK; rw [if_pos (wanted_none rfl)]; obtain ⟨y6, hy6, rfl⟩ := get 0 _ _ rfl rfl (by kernel_rfl); clear out get; go_simp; exact hK _ _ rfl (Below.refl _ _)
  · intro a x K out get hb hK; rw [if_pos (wanted_none rfl)]; obtain ⟨y7, hy7, rfl⟩ := get 1 _ _ rfl rfl (by kernel_rfl); clear out get; go_simp; exact hK _ _ rfl (Below.refl _ _)
  · intro a x K out get hb hK; rw [if_pos (wanted_none rfl)]; obtain ⟨y8, hy8, rfl⟩ := get 2 _ _ rfl rfl (by kernel_rfl); clear out get; go_simp; refine (KA.out x hb).mono ?_; rintro e w2 ⟨rfl, hb2⟩; exact hK _ _ rfl hb2
  · intro a x K out get hb hK; rw [if_pos (wanted_none rfl)]; have o0 : a.tmps[0]? = some (.pointer (some ⟨mb, 0, none⟩)) := out 0 (by kernel_rfl); clear out get; go_simp; exact hK _ _ rfl (Below.refl _ _)
  · intro a x K out get hb hK; rw [if_pos (wanted_none rfl)]; obtain ⟨y10, hy10, rfl⟩ := get 4 _ _ rfl rfl (by kernel_rfl); clear out get; go_simp; exact hK _ _ rfl (Below.refl _ _)
  · intro a x K out get hb hK; rw [if_pos (wanted_none rfl)]; obtain ⟨y11, hy11, rfl⟩ := get 5 _ _ rfl rfl (by kernel_rfl); clear out get; go_simp; exact hK _ _ rfl (Below.refl _ _)
  · intro a x K out get hb hK; rw [if_pos (wanted_none rfl)]; obtain ⟨y12, hy12, rfl⟩ := get 6 _ _ rfl rfl (by kernel_rfl); clear out get; go_simp; refine (KB.out x hb).mono ?_; rintro e w2 ⟨rfl, hb2⟩; exact hK _ _ rfl hb2
  · intro a x K out get hb hK; rw [if_pos (wanted_none rfl)]; obtain ⟨y9, hy9, rfl⟩ := get 3 _ _ rfl rfl (by kernel_rfl); clear out get; go_simp; exact hK _ _ rfl (Below.refl _ _)
  · intro a x K out get hb hK; rw [if_pos (wanted_none rfl)]; obtain ⟨y13, hy13, rfl⟩ := get 7 _ _ rfl rfl (by kernel_rfl); clear out get; go_simp; exact hK _ _ rfl (Below.refl _ _)
  refine ao_fin (isD := fun s => decide (2 ≤ s) && decide (s ≤ 13)) (by kernel_rfl) ?_; intro f w5 hv hb5; have h2 : f 2 = _ := hv 8 _ _ rfl rfl; have h3 : f 3 = _ := hv 9 _ _ rfl rfl; clear hv; generalize hF : (Act.mk (List.toArray (frm f _ 0 _)) _) = fr; simp [frm] at hF; rw [h2, h3] at hF; subst hF; generalize f 4 = u4 at *; generalize f 5 = u5 at *; generalize f 6 = u6 at *; generalize f 7 = u7 at *; generalize f 8 = u8 at *; generalize f 9 = u9 at *; generalize f 10 = u10 at *; generalize f 11 = u11 at *; generalize f 12 = u12 at *; generalize f 13 = u13 at *; clear h2 h3 f; go_wp2; go_ret2; exact ⟨rfl, hb5⟩
end
theorem new_close (room x : Int) (w : World) (hx : x = ((MM.new room).most : Int)) : ∃ X, LandAt X (w.alloc (.cells #[.int .i64 x, .slice none 0 0, .int .u32 0, .int .i32 0, .int .u32 0, .map none, .int .i64 0, .int .i64 0] 76)) (.pointer (some ⟨w.heap.size, 0, none⟩)) (MM.new room) ∧ (∀ y, X y → y = w.heap.size) ∧ Below w.heap.size w (w.alloc (.cells #[.int .i64 x, .slice none 0 0, .int .u32 0, .int .i32 0, .int .u32 0, .map none, .int .i64 0, .int .i64 0] 76)) := by
  subst hx; refine ⟨At1 w.heap.size, ⟨w.heap.size, .slice none 0 0, .map none, 0, fun _ => False, rfl, ?_⟩, fun y hy => hy, bel_al w _⟩; exact { blk := blk_new w _, memo := rfl, lt := (fun y hy => by rw [show y = w.heap.size from hy]; simp), row := ⟨[], ⟨rfl, .inl ⟨rfl, rfl⟩⟩, RowVals.nil _ _⟩, rowX := (fun f hf => by cases hf), kids := (fun b hb => hb.elim), map := .inl ⟨rfl, rfl, rfl⟩, forms := (fun y hy => by cases hy) }
theorem new_land (room : Int) (w : World) : Calls Tryz.prog 9 #[.int .i64 room] w fun e w' => e = .returned (.pointer (some ⟨w.heap.size, 0, none⟩)) ∧ ∃ X, LandAt X w' (.pointer (some ⟨w.heap.size, 0, none⟩)) (MM.new room) ∧ (∀ x, X x → x = w.heap.size) ∧ Below w.heap.size w w' := by
  (have hz : ((MM.new room).most : Int) = min (max room 0) 10000 := by simp only [MM.new]; omega); go_enter Tryz.func9, Tryz.ntmps9; go_wp2
  all_goals (go_ret; first | exact ⟨rfl, new_close room (min (max room 0) 10000) w (by omega)⟩ | exact ⟨rfl, new_close room 10000 w (by omega)⟩ | exact ⟨rfl, new_close room room w (by omega)⟩ | exact ⟨rfl, new_close room 0 w (by omega)⟩)
theorem len_nil (w : World) : Calls Tryz.prog 18 #[.pointer none] w fun e w' => e = .returned (.int .i64 0) ∧ w' = w := by
  go_enter Tryz.func18, Tryz.ntmps18; go_wp2; go_ret; exact ⟨rfl, rfl⟩
theorem room_nil (w : World) : Calls Tryz.prog 19 #[.pointer none] w fun e w' => e = .returned (.int .i64 0) ∧ w' = w := by
  go_enter Tryz.func19, Tryz.ntmps19; go_wp2; go_ret; exact ⟨rfl, rfl⟩
theorem asked_nil (w : World) : Calls Tryz.prog 16 #[.pointer none] w fun e w' => e = .returned (.tuple #[.int .i64 0, .int .i64 0]) ∧ w' = w := by
  go_enter Tryz.func16, Tryz.ntmps16; go_wp2; go_ret2; exact ⟨rfl, rfl⟩
end Go.Proofs.YthgghaaddankoaaGreatDoor
/- Lemmas of mine. -/
namespace Go.Proofs.YthgghaaddankoaaGreatDoor
open Go.RowKit Go.Maps
def MM.look (m : MM) (x : Rx) : MM × Int × Bool := if 0 ≤ placeI m.l x then (⟨m.most, m.l, m.all + 1, m.met + 1⟩, placeI m.l x, true) else (⟨m.most, m.l, m.all + 1, m.met⟩, 0, false)
def LookPost (X : Nat → Prop) (mb : Nat) (v mv : Value) (d : Int) (K : Nat → Prop) (r : MM × Int × Bool) (w : World) (e : Ending) (w' : World) : Prop := e = .returned (.tuple #[.int .i64 r.2.1, .bool r.2.2]) ∧ MemoAt X w' mb v mv d K r.1 ∧ Fm (At1 mb) w w'
section
variable {X : Nat → Prop} {w : World} {mb : Nat} {v mv : Value} {d : Int} {K : Nat → Prop} {m : MM}
set_option maxRecDepth 100000 in
theorem number_nil (h : MemoAt X w mb v (.map none) 0 K m) (hall : m.all ≤ 200000) (hl : m.l = []) {x : Rx} (hx : (textX x).length ≤ maxLen) :
    Calls Tryz.prog 26 #[.pointer (some ⟨mb, 0, none⟩), .string ⟨(textX x).toArray⟩] w (LookPost X mb v (.map none) 0 K (m.look x) w) := by
  (have hlook : m.look x = (⟨m.most, m.l, m.all + 1, m.met⟩, 0, false) := by unfold MM.look; rw [hl, placeI_not (by simp), if_neg (by decide)]); rw [hlook]; obtain ⟨-, ⟨-, -, a6, -⟩, fz⟩ := h.blk.cells; have KA := Lib.hid (add64 mb 6 m.all w a6 (fz 6) (by omega) (by omega)); have hkey := key_of hx; have HM := Lib.hid h; clear h a6 fz hlook; go_enter Tryz.func26, Tryz.ntmps26; go_wp2_with fail; refine KA.out.mono ?_; rintro e w1 ⟨rfl, hw1⟩; (have B1 : MemB w1 mb (.int .i64 m.most) v (.int .u32 0) (.int .i32 0) (.int .u32 0) (.map none) (.int .i64 ((m.all + 1 : Nat) : Int)) (.int .i64 m.met) := by rw [hw1]; exact HM.out.blk.set6 _); (have F1 : Fm (At1 mb) w w1 := by rw [hw1]; exact (Fm.refl _ w).set1 _); clear hw1; obtain ⟨-, ⟨-, a5, -, -⟩, -⟩ := B1.cells; have hrun := look_nil (w := w1) true keyed_str Tryz.underlying71 (zero_int _) hkey; have HP := Lib.hid (HM.out.count F1 B1); have HF := Lib.hid F1; clear B1 F1 HM KA hkey; go_wp2; go_ret2; exact ⟨rfl, HP.out, HF.out⟩
set_option maxRecDepth 100000 in
theorem number_hit {bm : Nat} {D : DataW Unit} {i : Int} (h : MemoAt X w mb v (.map (some bm)) 1 K m) (hall : m.all ≤ 200000) (hmet : m.met ≤ 200000) (hown : w.ownsMap Tryz.prog 9 (plainElem Tryz.prog 3) bm m.l.length D) (hbm : bm ≠ mb) {x : Rx} (hx : (textX x).length ≤ maxLen) (hi : placeI m.l x = i) (hi0 : 0 ≤ i) (hh : has D (keyL x) = true) (hd : D.atKey (keyL x) (numD 0) = numD i) :
    Calls Tryz.prog 26 #[.pointer (some ⟨mb, 0, none⟩), .string ⟨(textX x).toArray⟩] w (LookPost X mb v (.map (some bm)) 1 K (m.look x) w) := by
  (have hlook : m.look x = (⟨m.most, m.l, m.all + 1, m.met + 1⟩, i, true) := by unfold MM.look; rw [hi, if_pos hi0]); rw [hlook]; obtain ⟨-, ⟨-, -, a6, -⟩, fz⟩ := h.blk.cells; have KA := Lib.hid (add64 mb 6 m.all w a6 (fz 6) (by omega) (by omega)); have hkey := key_of hx; have HM := Lib.hid h; have HO := Lib.hid hown; have HH := Lib.hid hh; have HD := Lib.hid hd; clear h a6 fz hlook hown hh hd hi; go_enter Tryz.func26, Tryz.ntmps26; go_wp2_with fail; refine KA.out.mono ?_; rintro e w1 ⟨rfl, hw1⟩; (have B1 : MemB w1 mb (.int .i64 m.most) v (.int .u32 1) (.int .i32 0) (.int .u32 0) (.map (some bm)) (.int .i64 ((m.all + 1 : Nat) : Int)) (.int .i64 m.met) := by rw [hw1]; exact HM.out.blk.set6 _); (have F1 : Fm (At1 mb) w w1 := by rw [hw1]; exact (Fm.refl _ w).set1 _); (have O1 : w1.ownsMap Tryz.prog 9 (plainElem Tryz.prog 3) bm m.l.length D := by rw [hw1]; exact HO.out.setCell (a := ⟨mb, 6, none⟩) hbm _); clear hw1; obtain ⟨-, ⟨-, a5, -, a7⟩, fz⟩ := B1.cells; have KB := Lib.hid (add64 mb 7 m.met w1 a7 (fz 7) (by omega) (by omega)); have HB := Lib.hid B1; have HF := Lib.hid F1; have HO1 := Lib.hid O1; clear B1 F1 O1 KA HO fz a7; go_wp2_with (at_lookup; refine wpList_lookup_own_ok_int _ rfl _ _ 71 rfl 9 3 .i64 keyed_str Tryz.underlying71 Tryz.underlying3 (zero_int _) bm m.l.length D rfl HO1.out _ _ rfl hkey ?_; intro c hat hwc; have hc : c = i := (by have e := hat.symm.trans HD.out; unfold numD at e; simpa using e); rw [hc, HH.out]; clear hat hwc hc); refine KB.out.mono ?_; rintro e w2 ⟨rfl, hw2⟩; (have B2 : MemB w2 mb (.int .i64 m.most) v (.int .u32 1) (.int .i32 0) (.int .u32 0) (.map (some bm)) (.int .i64 ((m.all + 1 : Nat) : Int)) (.int .i64 ((m.met + 1 : Nat) : Int)) := by rw [hw2]; exact HB.out.set7 _); (have F2 : Fm (At1 mb) w w2 := by rw [hw2]; exact HF.out.set1 _); have HP := Lib.hid (HM.out.count F2 B2); have HF2 := Lib.hid F2; clear hw2 B2 F2 KB HO1 HM; go_wp2; go_ret2; exact ⟨rfl, HP.out, HF2.out⟩
set_option maxRecDepth 100000 in
theorem number_miss {bm : Nat} {D : DataW Unit} (h : MemoAt X w mb v (.map (some bm)) 1 K m) (hall : m.all ≤ 200000) (hown : w.ownsMap Tryz.prog 9 (plainElem Tryz.prog 3) bm m.l.length D) (hbm : bm ≠ mb) {x : Rx} (hx : (textX x).length ≤ maxLen) (hi : ¬ 0 ≤ placeI m.l x) (hh : has D (keyL x) = false) (hd : D.atKey (keyL x) (numD 0) = numD 0) :
    Calls Tryz.prog 26 #[.pointer (some ⟨mb, 0, none⟩), .string ⟨(textX x).toArray⟩] w (LookPost X mb v (.map (some bm)) 1 K (m.look x) w) := by
  (have hlook : m.look x = (⟨m.most, m.l, m.all + 1, m.met⟩, 0, false) := by unfold MM.look; rw [if_neg hi]); rw [hlook]; obtain ⟨-, ⟨-, -, a6, -⟩, fz⟩ := h.blk.cells; have KA := Lib.hid (add64 mb 6 m.all w a6 (fz 6) (by omega) (by omega)); have hkey := key_of hx; have HM := Lib.hid h; have HO := Lib.hid hown; have HH := Lib.hid hh; have HD := Lib.hid hd; clear h a6 fz hlook hown hh hd hi; go_enter Tryz.func26, Tryz.ntmps26; go_wp2_with fail; refine KA.out.mono ?_; rintro e w1 ⟨rfl, hw1⟩; (have B1 : MemB w1 mb (.int .i64 m.most) v (.int .u32 1) (.int .i32 0) (.int .u32 0) (.map (some bm)) (.int .i64 ((m.all + 1 : Nat) : Int)) (.int .i64 m.met) := by rw [hw1]; exact HM.out.blk.set6 _); (have F1 : Fm (At1 mb) w w1 := by rw [hw1]; exact (Fm.refl _ w).set1 _); (have O1 : w1.ownsMap Tryz.prog 9 (plainElem Tryz.prog 3) bm m.l.length D := by rw [hw1]; exact HO.out.setCell (a := ⟨mb, 6, none⟩) hbm _); clear hw1; obtain ⟨-, ⟨-, a5, -, -⟩, -⟩ := B1.cells; have HP := Lib.hid (HM.out.count F1 B1); have HF := Lib.hid F1; have HO1 := Lib.hid O1; clear B1 F1 O1 KA HO HM; go_wp2_with (at_lookup; refine wpList_lookup_own_ok_int _ rfl _ _ 71 rfl 9 3 .i64 keyed_str Tryz.underlying71 Tryz.underlying3 (zero_int _) bm m.l.length D rfl HO1.out _ _ rfl hkey ?_; intro c hat hwc; have hc : c = 0 := (by have e := hat.symm.trans HD.out; unfold numD at e; simpa using e); rw [hc, HH.out]; clear hat hwc hc); go_ret2; exact ⟨rfl, HP.out, HF.out⟩
theorem number_any (h : MemoAt X w mb v mv d K m) (hall : m.all ≤ 200000) (hmet : m.met ≤ 200000) {x : Rx} (hf : FormE x) (hx : (textX x).length ≤ maxLen) :
    Calls Tryz.prog 26 #[.pointer (some ⟨mb, 0, none⟩), .string ⟨(textX x).toArray⟩] w (LookPost X mb v mv d K (m.look x) w) := by
  rcases h.map with ⟨rfl, rfl, hl⟩ | ⟨rfl, bm, rfl, _, h4, _, _, D, hown, hD⟩
  · exact number_nil h hall hl hx
  · obtain ⟨e1, e2⟩ := hD.look hf
    by_cases hi : 0 ≤ placeI m.l x
    · rw [if_pos hi] at e2; exact number_hit h hall hmet hown h4 hx rfl hi (by rw [e1, decide_eq_true hi]) e2
    · rw [if_neg hi] at e2; exact number_miss h hall hown h4 hx hi (by rw [e1, decide_eq_false hi]) e2
end
end Go.Proofs.YthgghaaddankoaaGreatDoor
/- Lemmas of mine. -/
namespace Go.Proofs.YthgghaaddankoaaGreatDoor
open Go.RowKit Go.Maps
def AddX (X : Nat → Prop) (n N : Nat) (b : Nat) : Prop := X b ∨ (n ≤ b ∧ b < N)
def OncePost (X : Nat → Prop) (mb : Nat) (v : Value) (K : Nat → Prop) (m : MM) (w : World) (e : Ending) (w' : World) : Prop := e = .returned (.tuple #[]) ∧ ∃ bm, MemoAt (AddX X w.heap.size w'.heap.size) w' mb v (.map (some bm)) 1 K m ∧ Fm (At1 mb) w w'
section
variable {X : Nat → Prop} {w : World} {mb : Nat} {v mv : Value} {d : Int} {K : Nat → Prop} {m : MM}
theorem onceMemo_any (h : MemoAt X w mb v mv d K m) (pl : Addr) (hpb : ¬ pl.block = mb) (hp : w.cell? pl = some (.pointer (some ⟨mb, 0, none⟩))) :
    Calls Tryz.prog 72 #[.pointer (some ⟨mb, 2, none⟩), .func (.func 73) #[] #[.pointer (some pl)]] w (OncePost X mb v K m w) := by
  have hb := h.blk
  rcases h.map with ⟨rfl, rfl, hl⟩ | ⟨rfl, bm, rfl, h3, h4, h5, h6, h7⟩
  · refine (once_first mb pl hpb _ _ _ _ _ _ w hp hb).mono ?_; rintro e w' ⟨rfl, bm, hm1, hm2, B2, F2⟩; have hs : bm < w'.heap.size := (Array.getElem?_eq_some_iff.1 hm2).1; refine ⟨rfl, bm, { blk := B2, memo := .inl h.memo, lt := ?_, row := ?_, rowX := fun f hf => ⟨.inl (h.rowX f hf).1, (h.rowX f hf).2⟩, kids := fun b hb => ⟨.inl (h.kids b hb).1, (h.kids b hb).2⟩, map := .inr ⟨rfl, bm, rfl, .inr ⟨hm1, hs⟩, ?_, ?_, ?_, ?_⟩, forms := h.forms }, F2⟩
    · rintro x (hx | hx)
      · exact Nat.lt_of_lt_of_le (h.lt x hx) F2.size
      · exact hx.2
    · obtain ⟨xs, r1, r2⟩ := h.row; exact ⟨xs, own_go r1 fun f hf hl => F2.block f hl (h.rowX f hf).2, r2.go ⟨F2.size, fun b hl hb => ⟨hb, F2.block b hl (h.kids b hb).2.1⟩⟩⟩
    · have := hb.lt; omega
    · intro hf; have := h.lt _ (h.rowX _ hf).1; omega
    · intro hk; have := h.lt _ (h.kids _ hk).1; omega
    · rw [hl]; exact MapAt.made hm2
  · refine (once_done _ _ w (hb.cells.1.2.2.1)).mono ?_; rintro e w' ⟨rfl, rfl⟩
    exact ⟨rfl, bm, h.wide (fun x hx => .inl hx) (by
      rintro x (hx | hx)
      · exact h.lt x hx
      · omega), Fm.refl _ _⟩
end
theorem fm_put6 {X : Nat → Prop} (w : World) (g off : Nat) (u0 u1 u2 u3 u4 u5 : Value) (hX : X g) : Fm X w (put6 w g off u0 u1 u2 u3 u4 u5) :=
  (((((Fm.set (w := w) ⟨g, off, none⟩ u0 hX).trans (Fm.set ⟨g, off + 1, none⟩ u1 hX)).trans (Fm.set ⟨g, off + 2, none⟩ u2 hX)).trans (Fm.set ⟨g, off + 3, none⟩ u3 hX)).trans (Fm.set ⟨g, off + 4, none⟩ u4 hX)).trans (Fm.set ⟨g, off + 5, none⟩ u5 hX)
theorem lit_wf {n : Nat} (h : n < 1000000) : (Lit.int .i64 (n : Int)).wf = true := by
  have h1 := wrap64_wf (n : Int)
  rwa [show wrap64 (n : Int) = (n : Int) from by unfold wrap64; omega] at h1
theorem eval_tmp11 {a : Act} {j : Nat} {v : Value} (h : a.tmps[j]? = some v) : a.eval (.tmp j) = v := by
  simp [Act.eval, h]
def SP.sixY (y0 y1 y2 y3 y4 : Int) (yl : Option Addr) (yn yc : Nat) : SP := ⟨fun x w => ∃ g, x = .slice (some ⟨g, 0, none⟩) 1 1 ∧ w.heap[g]? = some (.cells #[.int .u8 y0, .int .u64 y1, .int .u64 y2, .int .u64 y3, .int .u64 y4, .slice yl yn yc] 39), fun _ _ _ ⟨g, h1, h2⟩ hb => ⟨g, h1, (hb.block _ (Array.getElem?_eq_some_iff.1 h2).1).trans h2⟩⟩
theorem six_at11 {w : World} {g : Nat} {c0 c1 c2 c3 c4 c5 : Value} (h : w.heap[g]? = some (.cells #[c0, c1, c2, c3, c4, c5] 39)) : ∀ j u, ([c0, c1, c2, c3, c4, c5] : List Value)[j]? = some u → w.cell? ((⟨g, 0, none⟩ : Addr).add j) = some u := by
  intro j u hj; rw [Go.WideShapes.add_plain]; show w.cell? ⟨g, 0 + j, none⟩ = some u; rw [Nat.zero_add, Lib.cell_of_heap h]
  simpa using hj
structure AddSt (X : Nat → Prop) (B : Nat) (w : World) (mb : Nat) (v : Value) (bm : Nat) (K : Nat → Prop) (m : MM) (x : Rx) (y0 y1 y2 y3 y4 : Int) (yl : Option Addr) (yn yc : Nat) (W : World) : Prop where
  memo : ∃ Y, MemoAt Y W mb v (.map (some bm)) 1 K m ∧ ∀ b, Y b → X b ∨ w.heap.size + 2 ≤ b
  pl : W.heap[w.heap.size]? = some (.cells #[.pointer (some ⟨mb, 0, none⟩)] 25)
  fb : W.heap[w.heap.size + 1]? = some (.cells #[.int .u8 y0, .int .u64 y1, .int .u64 y2, .int .u64 y3, .int .u64 y4, .slice yl yn yc] 39)
  re : ReAt (fun b => B ≤ b ∧ b < w.heap.size) W (.agg #[.int .u8 y0, .int .u64 y1, .int .u64 y2, .int .u64 y3, .int .u64 y4, .slice yl yn yc]) x
  fm : Fm X w W
  at_ : X mb ∧ mb < B ∧ (∀ y, X y → y < B) ∧ B ≤ w.heap.size
  own : (∀ f, v.ownBlock = some f → X f ∧ f ≠ mb) ∧ ∀ b, K b → X b ∧ b ≠ mb ∧ v.ownBlock ≠ some b
theorem AddSt.below {X : Nat → Prop} {B : Nat} {w : World} {mb : Nat} {v : Value} {bm : Nat} {K : Nat → Prop} {m : MM} {x : Rx} {y0 y1 y2 y3 y4 : Int} {yl : Option Addr} {yn yc : Nat} {W W' : World} (h : AddSt X B w mb v bm K m x y0 y1 y2 y3 y4 yl yn yc W) (hb : Below W.heap.size W W') : AddSt X B w mb v bm K m x y0 y1 y2 y3 y4 yl yn yc W' := by
  obtain ⟨Y, h1, h2⟩ := h.memo; exact ⟨⟨Y, h1.below hb, h2⟩, (hb.block _ (Array.getElem?_eq_some_iff.1 h.pl).1).trans h.pl, (hb.block _ (Array.getElem?_eq_some_iff.1 h.fb).1).trans h.fb, h.re.below hb, h.fm.trans (Fm.below hb), h.at_, h.own⟩
theorem AddSt.reads {X : Nat → Prop} {B : Nat} {w : World} {mb : Nat} {v : Value} {bm : Nat} {K : Nat → Prop} {m : MM} {x : Rx} {y0 y1 y2 y3 y4 : Int} {yl : Option Addr} {yn yc : Nat} {W : World} (h : AddSt X B w mb v bm K m x y0 y1 y2 y3 y4 yl yn yc W) :
    W.cell? ⟨w.heap.size, 0, none⟩ = some (.pointer (some ⟨mb, 0, none⟩)) ∧ W.cell? ⟨mb, 1, none⟩ = some v ∧ W.cell? ⟨mb, 5, none⟩ = some (.map (some bm)) ∧ W.frozen? ⟨mb, 1, none⟩ = false ∧ (W.cell? ⟨w.heap.size + 1, 0, none⟩ = some (.int .u8 y0) ∧ W.cell? ⟨w.heap.size + 1, 1, none⟩ = some (.int .u64 y1) ∧ W.cell? ⟨w.heap.size + 1, 2, none⟩ = some (.int .u64 y2) ∧ W.cell? ⟨w.heap.size + 1, 3, none⟩ = some (.int .u64 y3) ∧ W.cell? ⟨w.heap.size + 1, 4, none⟩ = some (.int .u64 y4) ∧ W.cell? ⟨w.heap.size + 1, 5, none⟩ = some (.slice yl yn yc)) := by
  obtain ⟨Y, h1, h2⟩ := h.memo; obtain ⟨⟨-, a1, -, -⟩, ⟨-, a5, -, -⟩, fz⟩ := h1.blk.cells; obtain ⟨c0, c1, c2, c3, c4, c5, -⟩ := cellsR h.fb; exact ⟨(Lib.cell_of_heap h.pl 0).trans rfl, a1, a5, fz 1, c0, c1, c2, c3, c4, c5⟩
theorem AddSt.start {X : Nat → Prop} {B : Nat} {w W w1 : World} {mb : Nat} {v mv : Value} {d : Int} {bm : Nat} {K : Nat → Prop} {m : MM} {x : Rx} {y0 y1 y2 y3 y4 : Int} {yl : Option Addr} {yn yc : Nat} (hs : W.heap.size = w.heap.size + 2) (hb : Below w.heap.size w W)
    (hpl : W.heap[w.heap.size]? = some (.cells #[.pointer (some ⟨mb, 0, none⟩)] 25)) (hfb : W.heap[w.heap.size + 1]? = some (.cells #[.int .u8 y0, .int .u64 y1, .int .u64 y2, .int .u64 y3, .int .u64 y4, .slice yl yn yc] 39))
    (hre : ReAt (fun b => B ≤ b ∧ b < w.heap.size) W (.agg #[.int .u8 y0, .int .u64 y1, .int .u64 y2, .int .u64 y3, .int .u64 y4, .slice yl yn yc]) x) (h0 : MemoAt X w mb v mv d K m) (hXB : ∀ y, X y → y < B) (hBw : B ≤ w.heap.size)
    (h1 : MemoAt (AddX X W.heap.size w1.heap.size) w1 mb v (.map (some bm)) 1 K m) (hf : Fm (At1 mb) W w1) : AddSt X B w mb v bm K m x y0 y1 y2 y3 y4 yl yn yc w1 where
  memo := ⟨_, h1, by
    rintro b (h | h)
    · exact .inl h
    · exact .inr (by omega)⟩
  pl := (hf.block _ (by omega) (by have := hXB mb h0.memo; show ¬ w.heap.size = mb; omega)).trans hpl
  fb := (hf.block _ (by omega) (by have := hXB mb h0.memo; show ¬ w.heap.size + 1 = mb; omega)).trans hfb
  re := hre.go ⟨hf.size, fun b hl hb' => ⟨hb', hf.block b hl (by have := hXB mb h0.memo; show ¬ b = mb; omega)⟩⟩
  fm := (Fm.below hb).trans (hf.mono fun y _ hy => by rw [show y = mb from hy]; exact h0.memo)
  at_ := ⟨h0.memo, hXB mb h0.memo, hXB, hBw⟩
  own := ⟨h0.rowX, h0.kids⟩
theorem AddSt.rows {X : Nat → Prop} {B : Nat} {w : World} {mb : Nat} {v : Value} {bm : Nat} {K : Nat → Prop} {m : MM} {x : Rx} {y0 y1 y2 y3 y4 : Int} {yl : Option Addr} {yn yc : Nat} {W : World} (h : AddSt X B w mb v bm K m x y0 y1 y2 y3 y4 yl yn yc W) :
    ∃ xs, W.ownsRow 0 39 6 v m.l.length xs ∧ RowVals K W xs m.l := by
  obtain ⟨Y, h1, h2⟩ := h.memo; exact h1.row
def AddK (K : Nat → Prop) (B n : Nat) (b : Nat) : Prop := K b ∨ (B ≤ b ∧ b < n)
structure AddDn (X : Nat → Prop) (B : Nat) (w : World) (mb : Nat) (v : Value) (bm : Nat) (K : Nat → Prop) (m : MM) (x : Rx) (W : World) : Prop where
  blk : MemB W mb (.int .i64 m.most) v (.int .u32 1) (.int .i32 0) (.int .u32 0) (.map (some bm)) (.int .i64 m.all) (.int .i64 m.met)
  row : RowF (AddK K B w.heap.size) W v (m.l ++ [x])
  own : ∀ f, v.ownBlock = some f → (X f ∨ B ≤ f) ∧ f < W.heap.size ∧ f ≠ mb ∧ f ≠ bm
  kids : ∀ b, AddK K B w.heap.size b → (X b ∨ B ≤ b) ∧ b < W.heap.size ∧ b ≠ mb ∧ v.ownBlock ≠ some b ∧ b ≠ bm
  map : MapAt W bm m.l ∧ (X bm ∨ w.heap.size ≤ bm) ∧ bm ≠ mb
  fm : Fm X w W
  at_ : X mb ∧ (∀ y, X y → y < B) ∧ B ≤ w.heap.size
  forms : ∀ y ∈ m.l, FormE y
theorem AddSt.pushed {X : Nat → Prop} {B : Nat} {w : World} {mb : Nat} {v : Value} {bm : Nat} {K : Nat → Prop} {m : MM} {x : Rx} {y0 y1 y2 y3 y4 : Int} {yl : Option Addr} {yn yc : Nat} {W wA w2 W3 : World} {xs : List Value} {g' cap' : Nat} (h : AddSt X B w mb v bm K m x y0 y1 y2 y3 y4 yl yn yc W)
    (_hown : W.ownsRow 0 39 6 v m.l.length xs) (hvals : RowVals K W xs m.l) (hA : Below W.heap.size W wA) (hgrow : wA.grownBy w2 v.ownBlock) (hat : v.ownBlock = some g' ∨ g' = wA.heap.size) (hf : Fm (fun b => b = g' ∨ b = mb) w2 W3)
    (hrow : W3.ownsRow 0 39 6 (.slice (some ⟨g', 0, none⟩) (m.l.length + 1) cap') (m.l.length + 1) (xs ++ [.int .u8 y0, .int .u64 y1, .int .u64 y2, .int .u64 y3, .int .u64 y4, .slice yl yn yc]))
    (hmb : MemB W3 mb (.int .i64 m.most) (.slice (some ⟨g', 0, none⟩) (m.l.length + 1) cap') (.int .u32 1) (.int .i32 0) (.int .u32 0) (.map (some bm)) (.int .i64 m.all) (.int .i64 m.met)) :
    AddDn X B w mb (.slice (some ⟨g', 0, none⟩) (m.l.length + 1) cap') bm K m x W3 := by
  obtain ⟨Y, h1, h2⟩ := h.memo; obtain ⟨aX, aB, aXB, aBw⟩ := h.at_; obtain ⟨o1, o2⟩ := h.own; have hsw := h.fm.size; have hsA := hA.size; have hs2 := hgrow.size; have hs3 := hf.size
  rcases h1.map with ⟨h3, _⟩ | ⟨_, bm', e, hYb, hbm, hvb, hKb, hM⟩
  · exact absurd h3 (by decide)
  injection e with e; injection e with e; subst e; have hbl := hM.lt
  have hbX : X bm ∨ w.heap.size ≤ bm := by
    rcases h2 bm hYb with h | h
    · exact .inl h
    · exact .inr (by omega)
  have hg : (X g' ∨ B ≤ g') ∧ g' ≠ mb ∧ g' ≠ bm ∧ (X g' ∨ w.heap.size ≤ g') := by
    rcases hat with hat | hat
    · exact ⟨.inl (o1 g' hat).1, (o1 g' hat).2, fun e => hvb (by rw [hat, e]), .inl (o1 g' hat).1⟩
    · exact ⟨.inr (by omega), by omega, by omega, .inr (by omega)⟩
  have hgl : g' < W3.heap.size := (own_lt hrow).2.1
  have far : ∀ b, b < W.heap.size → v.ownBlock ≠ some b → b ≠ g' → b ≠ mb → W3.heap[b]? = W.heap[b]? := fun b hb hv hbg hbm => by
    rw [hf.block b (by omega) (fun h => Or.elim h hbg hbm), hgrow.block b (by omega) (fun e => hv e.symm), hA.block b hb]
  have hkg : ∀ b, AddK K B w.heap.size b → b < W.heap.size ∧ v.ownBlock ≠ some b ∧ b ≠ g' ∧ b ≠ mb ∧ b ≠ bm ∧ (X b ∨ B ≤ b) := by
    rintro b (hb | hb)
    · obtain ⟨k1, k2, k3⟩ := o2 b hb; have k4 := aXB b k1; refine ⟨by omega, k3, fun e => ?_, k2, fun e => hKb (e ▸ hb), .inl k1⟩
      rcases hat with hat | hat
      · exact k3 (by rw [hat, e])
      · omega
    · refine ⟨by omega, fun e => ?_, fun e => ?_, by omega, fun e => ?_, .inr hb.1⟩
      · have := aXB b (o1 b e).1; omega
      · rcases hat with hat | hat
        · have := aXB g' (o1 g' hat).1; omega
        · omega
      · rcases hbX with h | h
        · have := aXB bm h; omega
        · omega
  refine ⟨hmb, ⟨_, by simpa using hrow, ?_⟩, fun f hf' => ?_, fun b hb => ?_, ⟨hM.of (far bm hbl hvb (fun e => hg.2.2.1 e.symm) hbm), hbX, hbm⟩, ?_, ⟨aX, aXB, aBw⟩, h1.forms⟩
  · have k : Kept (AddK K B w.heap.size) (AddK K B w.heap.size) W W3 := ⟨by omega, fun b _ hb => ⟨hb, by
      obtain ⟨k1, k2, k3, k4, _, _⟩ := hkg b hb
      exact far b k1 k2 k3 k4⟩⟩
    exact ((hvals.go ⟨Nat.le_refl _, fun b _ hb => ⟨.inl hb, rfl⟩⟩).go k).append ((RowVals.one (h.re.imp fun b _ hb => .inr hb)).go k)
  · simp [Value.ownBlock] at hf'; subst hf'; exact ⟨hg.1, hgl, hg.2.1, hg.2.2.1⟩
  · obtain ⟨k1, k2, k3, k4, k5, k6⟩ := hkg b hb; exact ⟨k6, by omega, k4, by simp [Value.ownBlock]; exact fun e => k3 e.symm, k5⟩
  · refine ((h.fm.trans (Fm.below hA)).trans (Fm.grown hgrow fun f hf' => (o1 f hf').1)).then hf fun y hy hyg => ?_
    rcases hyg with rfl | rfl
    · rcases hg.2.2.2 with h | h
      · exact h
      · omega
    · exact aX
theorem AddDn.close {X : Nat → Prop} {B : Nat} {w : World} {mb : Nat} {v : Value} {bm : Nat} {K : Nat → Prop} {m : MM} {x : Rx} {W W4 : World} {D : DataW Unit} (h : AddDn X B w mb v bm K m x W) (hD : MapIs m.l D) (hx : FormE x) (hn : x ∉ m.l)
    (hown : W4.ownsMap Tryz.prog 9 (plainElem Tryz.prog 3) bm (m.l.length + 1) (D.put (keyL x) (numD m.l.length))) (hturn : W.grownBy W4 (some bm)) :
    ∃ X', LandAt X' W4 (.pointer (some ⟨mb, 0, none⟩)) ⟨m.most, m.l ++ [x], m.all, m.met⟩ ∧ (∀ y, X' y → X y ∨ B ≤ y) ∧ Fm X w W4 := by
  obtain ⟨aX, aXB, aBw⟩ := h.at_; obtain ⟨hM, hbX, hbm⟩ := h.map; have hs := hturn.size; have hmbl := h.blk.lt; have hsw := h.fm.size; have hbl := hM.lt; have far : ∀ b, b < W.heap.size → b ≠ bm → W4.heap[b]? = W.heap[b]? := fun b hb hne => hturn.block b hb fun e => hne (by injection e)
  have hfm : ∀ y ∈ m.l ++ [x], FormE y := by
    intro y hy
    rcases List.mem_append.1 hy with hy | hy
    · exact h.forms y hy
    · simp at hy; rw [hy]; exact hx
  refine ⟨fun y => (X y ∨ B ≤ y) ∧ y < W4.heap.size, ⟨mb, v, .map (some bm), 1, AddK K B w.heap.size, rfl, ?_⟩, fun y hy => hy.1, h.fm.then (Fm.grown (X := At1 bm) hturn fun y e => by injection e with e; exact e.symm) fun y hy hyb => ?_⟩
  · exact { blk := h.blk.of (far mb hmbl (fun e => hbm e.symm)), memo := ⟨.inl aX, by omega⟩, lt := fun y hy => hy.2, row := h.row.go hs (fun f hf => far f (h.own f hf).2.1 (h.own f hf).2.2.2) (fun b hb => ⟨hb, far b (h.kids b hb).2.1 (h.kids b hb).2.2.2.2⟩), rowX := fun f hf => ⟨⟨(h.own f hf).1, Nat.lt_of_lt_of_le (h.own f hf).2.1 hs⟩, (h.own f hf).2.2.1⟩, kids := fun b hb => ⟨⟨(h.kids b hb).1, Nat.lt_of_lt_of_le (h.kids b hb).2.1 hs⟩, (h.kids b hb).2.2.1, (h.kids b hb).2.2.2.1⟩, map := .inr ⟨rfl, bm, rfl, ⟨hbX.imp id fun h => Nat.le_trans aBw h, by omega⟩, hbm, fun e => (h.own bm e).2.2.2 rfl, fun e => (h.kids bm e).2.2.2.2 rfl, D.put (keyL x) (numD m.l.length), by simpa using hown, hD.put h.forms hx hn⟩, forms := hfm }
  · rcases hbX with h | h
    · rw [show y = bm from hyb]; exact h
    · have : y = bm := hyb; omega
theorem AddSt.grown {X : Nat → Prop} {B : Nat} {w : World} {mb : Nat} {v : Value} {bm : Nat} {K : Nat → Prop} {m : MM} {x : Rx} {y0 y1 y2 y3 y4 : Int} {yl : Option Addr} {yn yc : Nat} {W wA w2 : World} {g' : Nat} {D : DataW Unit} (h : AddSt X B w mb v bm K m x y0 y1 y2 y3 y4 yl yn yc W) (hA : Below W.heap.size W wA) (hgrow : wA.grownBy w2 v.ownBlock) (hat : v.ownBlock = some g' ∨ g' = wA.heap.size)
    (hD : W.ownsMap Tryz.prog 9 (plainElem Tryz.prog 3) bm m.l.length D) :
    MemB w2 mb (.int .i64 m.most) v (.int .u32 1) (.int .i32 0) (.int .u32 0) (.map (some bm)) (.int .i64 m.all) (.int .i64 m.met) ∧ ¬ mb = g' ∧ ¬ w.heap.size = g' ∧ w2.cell? ⟨w.heap.size, 0, none⟩ = some (.pointer (some ⟨mb, 0, none⟩)) ∧ (bm ≠ mb ∧ bm ≠ g') ∧ w2.ownsMap Tryz.prog 9 (plainElem Tryz.prog 3) bm m.l.length D := by
  obtain ⟨Y, h1, h2⟩ := h.memo; obtain ⟨aX, aB, aXB, aBw⟩ := h.at_; obtain ⟨o1, o2⟩ := h.own; have hsw := h.fm.size; have hsA := hA.size; have hpl := (Array.getElem?_eq_some_iff.1 h.pl).1; have hml := h1.blk.lt
  rcases h1.map with ⟨h3, _⟩ | ⟨_, bm', e, hYb, hbm, hvb, hKb, hM⟩
  · exact absurd h3 (by decide)
  injection e with e; injection e with e; subst e; have hbl := hM.lt
  have far : ∀ b, b < W.heap.size → v.ownBlock ≠ some b → w2.heap[b]? = W.heap[b]? := fun b hb hv => by
    rw [hgrow.block b (by omega) (fun e => hv e.symm), hA.block b hb]
  have hmv : v.ownBlock ≠ some mb := fun e => (o1 mb e).2 rfl; (have hpv : v.ownBlock ≠ some w.heap.size := fun e => by have := aXB _ (o1 _ e).1; omega); refine ⟨h1.blk.of (far mb hml hmv), ?_, ?_, ?_, ⟨hbm, ?_⟩, ?_⟩
  · rintro rfl
    rcases hat with hat | hat
    · exact hmv hat
    · omega
  · intro e
    rcases hat with hat | hat
    · exact hpv (by rw [e]; exact hat)
    · omega
  · exact (Lib.cell_of_heap ((far _ hpl hpv).trans h.pl) 0).trans rfl
  · rintro rfl
    rcases hat with hat | hat
    · exact hvb hat
    · omega
  · obtain ⟨es, c, e1, r⟩ := hD; exact ⟨es, c, (far bm hbl hvb).trans e1, r⟩
theorem AddSt.mapD {X : Nat → Prop} {B : Nat} {w : World} {mb : Nat} {v : Value} {bm : Nat} {K : Nat → Prop} {m : MM} {x : Rx} {y0 y1 y2 y3 y4 : Int} {yl : Option Addr} {yn yc : Nat} {W : World} (h : AddSt X B w mb v bm K m x y0 y1 y2 y3 y4 yl yn yc W) : ∃ D : DataW Unit, W.ownsMap Tryz.prog 9 (plainElem Tryz.prog 3) bm m.l.length D ∧ MapIs m.l D := by
  obtain ⟨Y, h1, h2⟩ := h.memo
  rcases h1.map with ⟨h3, _⟩ | ⟨_, bm', e, hYb, hbm, hvb, hKb, hM⟩
  · exact absurd h3 (by decide)
  injection e with e; injection e with e; subst e; exact hM
theorem ys6_one (y0 y1 y2 y3 y4 : Int) (yl : Option Addr) (yn yc : Nat) : ∀ u ∈ ([.int .u8 y0, .int .u64 y1, .int .u64 y2, .int .u64 y3, .int .u64 y4, .slice yl yn yc] : List Value), u.oneCell' = true := by
  intro u hu; simp at hu; rcases hu with rfl | rfl | rfl | rfl | rfl | rfl <;> rfl
set_option maxRecDepth 100000 in
set_option maxHeartbeats 4000000 in
theorem addMemo_any {X : Nat → Prop} {w : World} {mb : Nat} {v mv vx : Value} {d : Int} {K : Nat → Prop} {m : MM} {ok : Nat → Prop} {B : Nat} {x : Rx} (h : MemoAt X w mb v mv d K m) (hlen : m.l.length < 10000) (hx : FormE x) (hn : x ∉ m.l) (ht : (textX x).length ≤ maxLen) (hre : ReAt ok w vx x) (hB : ∀ b, ok b → B ≤ b) (hXB : ∀ y, X y → y < B) (hBw : B ≤ w.heap.size) :
    Calls Tryz.prog 48 #[.pointer (some ⟨mb, 0, none⟩), vx, .string ⟨(textX x).toArray⟩] w fun e w' => e = .returned (.int .i64 (m.l.length : Int)) ∧ ∃ X', LandAt X' w' (.pointer (some ⟨mb, 0, none⟩)) ⟨m.most, m.l ++ [x], m.all, m.met⟩ ∧ (∀ y, X' y → X y ∨ B ≤ y) ∧ Fm X w w' := by
  obtain ⟨y0, y1, y2, y3, y4, yl, yn, yc, rfl⟩ := cells_re hre; obtain ⟨i0, z0, hi0, hz0, hz1, hz2, hz3⟩ := infoR2; have hz2' := Lib.hid hz2; have hlt := h.blk.lt; have hb1 := bel_al w (.cells #[.pointer (some ⟨mb, 0, none⟩)] 25); have hb2 := hb1.trans ((bel_al (w.alloc (.cells #[.pointer (some ⟨mb, 0, none⟩)] 25)) (.cells #[.int .u8 y0, .int .u64 y1, .int .u64 y2, .int .u64 y3, .int .u64 y4, .slice yl yn yc] 39)).mono hb1.size); have hpl : ((w.alloc (.cells #[.pointer (some ⟨mb, 0, none⟩)] 25)).alloc (.cells #[.int .u8 y0, .int .u64 y1, .int .u64 y2, .int .u64 y3, .int .u64 y4, .slice yl yn yc] 39)).heap[w.heap.size]? = some (.cells #[.pointer (some ⟨mb, 0, none⟩)] 25) := (Below.heap_alloc _ _ _ (by simp)).trans (blk_new w _); have hfb : ((w.alloc (.cells #[.pointer (some ⟨mb, 0, none⟩)] 25)).alloc (.cells #[.int .u8 y0, .int .u64 y1, .int .u64 y2, .int .u64 y3, .int .u64 y4, .slice yl yn yc] 39)).heap[w.heap.size + 1]? = some (.cells #[.int .u8 y0, .int .u64 y1, .int .u64 y2, .int .u64 y3, .int .u64 y4, .slice yl yn yc] 39) := blk_at _ _ (by simp); have H2 := Lib.hid (h.below hb2); have HRE := Lib.hid (hre.imp (ok' := fun b => B ≤ b ∧ b < w.heap.size) fun b hl hb => ⟨hB b hb, hl⟩); have hp2 : ((w.alloc (.cells #[.pointer (some ⟨mb, 0, none⟩)] 25)).alloc (.cells #[.int .u8 y0, .int .u64 y1, .int .u64 y2, .int .u64 y3, .int .u64 y4, .slice yl yn yc] 39)).cell? ⟨w.heap.size, 0, none⟩ = some (.pointer (some ⟨mb, 0, none⟩)) := (Lib.cell_of_heap hpl 0).trans rfl; (have hsz2 : ((w.alloc (.cells #[.pointer (some ⟨mb, 0, none⟩)] 25)).alloc (.cells #[.int .u8 y0, .int .u64 y1, .int .u64 y2, .int .u64 y3, .int .u64 y4, .slice yl yn yc] 39)).heap.size = w.heap.size + 2 := by simp); have HST := Lib.hid fun w1 bm h1 hf => AddSt.start (w1 := w1) (bm := bm) (K := K) (m := m) (v := v) (x := x) hsz2 hb2 hpl hfb (HRE.out.below hb2) h hXB hBw h1 hf; have KO := Lib.hid (onceMemo_any H2.out ⟨w.heap.size, 0, none⟩ (by show ¬ w.heap.size = mb; omega) hp2); obtain ⟨al, vc, hv⟩ := h.form; subst hv; clear h hz2 hb1 hb2 hpl hfb hre hsz2 H2 HRE hp2; have hmf : ∀ (fn : Fn) (first cap : Array Value) (w : World), (Instr.makeFunc fn first cap).run Tryz.prog w = .ok (.func fn first cap) w := fun _ _ _ _ => rfl; go_enter Tryz.func48, Tryz.ntmps48; go_wp2_with fail; refine KO.out.mono ?_; rintro e w1 ⟨rfl, bm, h1, F1⟩; have S1 := Lib.hid (HST.out w1 bm h1 F1); obtain ⟨r0, r1, r5, rf, q0, q1, q2, q3, q4, q5⟩ := S1.out.reads; clear HST KO h1 F1; go_wp2_with fail
  go_region
  all_goals clear r0 r1 r5 rf q0 q1 q2 q3 q4 q5
  · go_wp2_with fail; obtain ⟨W, hW⟩ : ∃ W, W = (w1.alloc (.cells #[.bool false] 4)).drew := ⟨_, rfl⟩; have SX := Lib.hid (show AddSt X B w mb (.slice al m.l.length vc) bm K m x y0 y1 y2 y3 y4 yl yn yc W from by rw [hW]; exact S1.out.below (bel_al w1 _).drew); rw [← hW]; clear hW S1; obtain ⟨xs, hox, hvx⟩ := SX.out.rows; obtain ⟨D, hdx, hmi⟩ := SX.out.mapD; have OX := Lib.hid hox; have VX := Lib.hid hvx; have HDX := Lib.hid hdx; have HMI := Lib.hid hmi; have RX := Lib.hid fun z (hz : Below W.heap.size W z) => (SX.out.below hz).reads; (have hnw : ¬ w.heap.size = mb := fun e => by have := SX.out.at_; omega); have hnw' : ¬ mb = w.heap.size := fun e => hnw e.symm; (have hidx : (m.l.length : Int) < (m.l.length : Int) + 1 := by omega); clear hox hvx hdx hmi; have PC := Lib.hid fun z (hz : Below W.heap.size W z) => (RX.out z hz).1
    refine wp_region_orderX [7, 10] (fun i => if i = 7 then 2 else if i = 10 then 3 else if i = 4 then 0 else if i = 5 then 0 else if i = 6 then 0 else 1)
      (fun j => ([SP.eq (.pointer (some ⟨mb, 0, none⟩)), SP.eq (.pointer (some ⟨mb, 0, none⟩)), SP.eq (.pointer (some ⟨mb, 0, none⟩)), SP.eq (.pointer (some ⟨mb, 1, none⟩)), SP.eq (.slice al m.l.length vc), SP.eq (.agg #[.int .u8 y0, .int .u64 y1, .int .u64 y2, .int .u64 y3, .int .u64 y4, .slice yl yn yc]), SP.sixY y0 y1 y2 y3 y4 yl yn yc, SP.free, SP.eq (.pointer (some ⟨mb, 0, none⟩)), SP.eq (.pointer (some ⟨mb, 1, none⟩)), SP.free] : List SP).getD j SP.free) (pv [some (.pointer (some ⟨mb, 0, none⟩)), some (.pointer (some ⟨mb, 0, none⟩)), some (.pointer (some ⟨mb, 0, none⟩)), some (.pointer (some ⟨mb, 1, none⟩)), none, none, none, none, some (.pointer (some ⟨mb, 0, none⟩)), some (.pointer (some ⟨mb, 1, none⟩)), none])
      (fun z => Below W.heap.size W z) (fun z => z.cell? ⟨w.heap.size, 0, none⟩ = some (.pointer (some ⟨mb, 0, none⟩)))
      (fun k v z => match k with
        | 0 => ∃ g' cap', v = .slice (some ⟨g', 0, none⟩) (m.l.length + 1) cap' ∧ ∃ zA, Below W.heap.size W zA ∧ z.ownsRow 0 39 6 (.slice (some ⟨g', 0, none⟩) (m.l.length + 1) cap') (m.l.length + 1) (xs ++ [.int .u8 y0, .int .u64 y1, .int .u64 y2, .int .u64 y3, .int .u64 y4, .slice yl yn yc]) ∧ zA.grownBy z (Value.slice al m.l.length vc).ownBlock ∧ ((Value.slice al m.l.length vc).ownBlock = some g' ∨ g' = zA.heap.size)
        | _ => ∃ g' cap', AddDn X B w mb (.slice (some ⟨g', 0, none⟩) (m.l.length + 1) cap') bm K m x z ∧ z.ownsMap Tryz.prog 9 (plainElem Tryz.prog 3) bm m.l.length D ∧ z.cell? ⟨w.heap.size, 0, none⟩ = some (.pointer (some ⟨mb, 0, none⟩)))
      (Below.refl _ _).drew (fun z h => PC.out z h)
      (by
        intro k v z h
        match k, h with
        | 0, h =>
          obtain ⟨g', cap', _, zA, hzA, hown, hgrow, hat⟩ := h; exact (SX.out.grown hzA hgrow hat HDX.out).2.2.2.1
        | k + 1, h =>
          obtain ⟨g', cap', _, _, h⟩ := h
          exact h) (fun z z2 h hb => h.trans (hb.mono h.size))
      (by
        intro j y z h
        match j, h with
        | 0, h => exact h
        | 1, h => exact h
        | 2, h => exact h
        | 3, h => exact h
        | 4, _ => trivial
        | 5, _ => trivial
        | 6, _ => trivial
        | 7, _ => trivial
        | 8, h => exact h
        | 9, h => exact h
        | 10, _ => trivial
        | n + 11, _ => trivial) (by kernel_rfl) (by kernel_rfl) ⟨?_, ?_, ?_, ?_, ?_, ?_, ?_, ?_, ?_, ?_, ?_, trivial⟩ ?_
    · intro a z KQ out get old hC hK; rw [if_pos (wanted_none rfl)]; have o3 : a.tmps[3]? = some (.pointer (some ⟨w.heap.size, 0, none⟩)) := out 3 (by kernel_rfl); clear out get old; replace hC : z.cell? ⟨w.heap.size, 0, none⟩ = some (.pointer (some ⟨mb, 0, none⟩)) := hC; go_simp; exact hK _ rfl (fun _ => rfl)
    · intro a z KQ out get old hC hK; rw [if_pos (wanted_none rfl)]; have o3 : a.tmps[3]? = some (.pointer (some ⟨w.heap.size, 0, none⟩)) := out 3 (by kernel_rfl); clear out get old; replace hC : z.cell? ⟨w.heap.size, 0, none⟩ = some (.pointer (some ⟨mb, 0, none⟩)) := hC; go_simp; exact hK _ rfl (fun _ => rfl)
    · intro a z KQ out get old hC hK; rw [if_pos (wanted_none rfl)]; obtain ⟨y32, hy32, rfl⟩ := get 1 _ _ rfl rfl (by kernel_rfl); clear out get old; go_simp; exact hK _ rfl (fun _ => rfl)
    · intro a z KQ out get old hC hK; rw [if_pos (wanted_none rfl)]; obtain ⟨y33, hy33, rfl⟩ := get 2 _ _ rfl rfl (by kernel_rfl); clear out get old; go_simp; exact hK _ rfl (fun _ => rfl)
    · intro a z KQ out get hJ hK; rw [if_pos (wanted_none rfl)]; obtain ⟨y34, hy34, rfl⟩ := get 3 _ _ rfl rfl (by kernel_rfl); obtain ⟨y34, hy34, hp34⟩ := get 3 _ _ rfl rfl (by kernel_rfl); obtain rfl := hp34; obtain ⟨-, r1, -⟩ := RX.out z hJ; clear out get; go_simp; exact hK _ _ rfl (Below.refl _ _)
    · intro a z KQ out get hJ hK; rw [if_pos (wanted_none rfl)]; have o4 : a.tmps[4]? = some (.pointer (some ⟨w.heap.size + 1, 0, none⟩)) := out 4 (by kernel_rfl); obtain ⟨-, -, -, -, q0, q1, q2, q3, q4, q5⟩ := RX.out z hJ; clear out get; go_simp; exact hK _ _ rfl (Below.refl _ _)
    · intro a z KQ out get hJ hK; rw [if_pos (wanted_none rfl)]; obtain ⟨y36, hy36, hp36⟩ := get 5 _ _ rfl rfl (by kernel_rfl); obtain rfl := hp36; clear out get; go_simp; exact hK _ _ ⟨_, rfl, blk_new _ _⟩ (bel_al _ _)
    · intro a z KQ out get hJ hK; rw [if_pos (wanted_none rfl)]; obtain ⟨y35, hy35, -, hp35⟩ := get 4 _ _ rfl rfl (by kernel_rfl); obtain rfl := hp35 rfl; obtain ⟨y37, hy37, -, hp37⟩ := get 6 _ _ rfl rfl (by kernel_rfl); obtain ⟨gz, rfl, hz⟩ := hp37 rfl; clear out get; refine wp_append_lies _ (.tmp 35) (.tmp 37) 27 rfl 0 39 i0 z0 6 64 Tryz.underlying27 hi0 hz0 hz1 hz2'.out hz3 (by decide) (.slice al m.l.length vc) m.l.length xs (eval_tmp11 hy35) (ownR_below OX.out hJ) ⟨gz, 0, none⟩ 1 1 [.int .u8 y0, .int .u64 y1, .int .u64 y2, .int .u64 y3, .int .u64 y4, .slice yl yn yc] (eval_tmp11 hy37) rfl (six_at11 hz) (ys6_one _ _ _ _ _ _ _ _) (by decide) (by unfold maxLen; omega) (by omega) (Nat.zero_le _) _ rfl ?_; intro g' cap' w2 hown hgrow hat hlt2; exact hK _ _ trivial ⟨g', cap', rfl, z, hJ, hown, hgrow, hat⟩
    · intro a z KQ out get old hC hK; rw [if_pos (wanted_none rfl)]; obtain ⟨y31, hy31, rfl⟩ := get 0 _ _ rfl rfl (by kernel_rfl); clear out get old; go_simp; exact hK _ rfl (fun _ => rfl)
    · intro a z KQ out get old hC hK; rw [if_pos (wanted_none rfl)]; obtain ⟨y39, hy39, rfl⟩ := get 8 _ _ rfl rfl (by kernel_rfl); clear out get old; go_simp; exact hK _ rfl (fun _ => rfl)
    · intro a z KQ out get hJ hK; rw [if_pos (wanted_none rfl)]; obtain ⟨y40, hy40, rfl, -⟩ := get 9 _ _ rfl rfl (by kernel_rfl); obtain ⟨y38, hy38, g', cap', rfl, zA, hzA, hown, hgrow, hat⟩ := hJ; obtain ⟨B2, ne1, ne2, p2, hneb, O2⟩ := SX.out.grown hzA hgrow hat HDX.out; have ne1' : ¬ g' = mb := fun e => ne1 e.symm; obtain ⟨⟨-, b1, -, -⟩, -, bf⟩ := B2.cells; have bf1 := bf 1
      have D3 := Lib.hid (show AddDn X B w mb (.slice (some ⟨g', 0, none⟩) (m.l.length + 1) cap') bm K m x (z.setCell ⟨mb, 1, none⟩ (.slice (some ⟨g', 0, none⟩) (m.l.length + 1) cap')) from
        SX.out.pushed OX.out VX.out hzA hgrow hat (Fm.set (X := fun b => b = g' ∨ b = mb) ⟨mb, 1, none⟩ _ (.inr rfl)) (own_row hown (Below.heap_setCell _ _ _ _ ne1')) (MemB.set1 B2 _))
      have O3 := Lib.hid (O2.setCell (a := ⟨mb, 1, none⟩) hneb.1 (.slice (some ⟨g', 0, none⟩) (m.l.length + 1) cap')); (have P3 : (z.setCell ⟨mb, 1, none⟩ (.slice (some ⟨g', 0, none⟩) (m.l.length + 1) cap')).cell? ⟨w.heap.size, 0, none⟩ = some (.pointer (some ⟨mb, 0, none⟩)) := by rw [World.cell?_setCell_other _ _ _ _ (fun h => by first | exact hnw' (congrArg Addr.block h) | exact hnw (congrArg Addr.block h))]; exact p2); have HP3 := Lib.hid P3; clear out get bf O2 hown hgrow hat p2 P3; go_simp; exact hK (.bool true) _ trivial ⟨_, _, D3.out, O3.out, HP3.out⟩
    refine ao_finX (isD := fun s => decide (31 ≤ s) && decide (s ≤ 40)) 1 none rfl (by kernel_rfl) (by kernel_rfl) (by kernel_rfl) ?_; intro f z hv hG hN; obtain ⟨_, g', cap', hD3, hO3, hP3⟩ := hN rfl; have D3 := Lib.hid hD3; have O3 := Lib.hid hO3; have hkey := key_of ht; have hwv : (Lit.int .i64 (m.l.length : Int)).wf = true := lit_wf (by omega); obtain ⟨-, ⟨-, b5, -, -⟩, -⟩ := hD3.blk.cells; clear hv hG hN hD3 hO3 PC RX SX OX VX HDX; simp only [frm]; simp; go_wp2_with (at_mapUpdate; refine wpList_mapUpdate_in _ rfl _ _ _ 71 rfl 9 3 keyed_str Tryz.underlying71 _ bm m.l.length D rfl O3.out (by unfold maxLen; omega) _ _ _ rfl rfl hkey _ [] (plainElem_int Tryz.underlying3 hwv) ?_; intro w4 hown4 hturn4; have HO4 := Lib.hid hown4; have HT4 := Lib.hid hturn4.grown; clear hown4 hturn4); go_ret; exact ⟨rfl, D3.out.close HMI.out hx hn HO4.out HT4.out⟩
  · go_wp2_with fail; obtain ⟨W, hW⟩ : ∃ W, W = (w1.alloc (.cells #[.bool true] 4)).drew := ⟨_, rfl⟩; have SX := Lib.hid (show AddSt X B w mb (.slice al m.l.length vc) bm K m x y0 y1 y2 y3 y4 yl yn yc W from by rw [hW]; exact S1.out.below (bel_al w1 _).drew); rw [← hW]; clear hW S1; obtain ⟨xs, hox, hvx⟩ := SX.out.rows; obtain ⟨D, hdx, hmi⟩ := SX.out.mapD; have OX := Lib.hid hox; have VX := Lib.hid hvx; have HDX := Lib.hid hdx; have HMI := Lib.hid hmi; have RX := Lib.hid fun z (hz : Below W.heap.size W z) => (SX.out.below hz).reads; (have hnw : ¬ w.heap.size = mb := fun e => by have := SX.out.at_; omega); have hnw' : ¬ mb = w.heap.size := fun e => hnw e.symm; (have hidx : (m.l.length : Int) < (m.l.length : Int) + 1 := by omega); clear hox hvx hdx hmi; refine wp_region_orderL 7 (fun i => ([SP.eq (.pointer (some ⟨mb, 0, none⟩)), SP.eq (.pointer (some ⟨mb, 0, none⟩)), SP.eq (.pointer (some ⟨mb, 1, none⟩)), SP.eq (.slice al m.l.length vc), SP.eq (.agg #[.int .u8 y0, .int .u64 y1, .int .u64 y2, .int .u64 y3, .int .u64 y4, .slice yl yn yc]), SP.eq (.int .i64 m.l.length), SP.zero] : List SP).getD i SP.free) (fun _ => false) (fun _ _ _ h => by cases h) (by kernel_rfl) (by kernel_rfl) ⟨?_, ?_, ?_, ?_, ?_, ?_, ?_, trivial⟩ ?_
    · intro a z K out get hb hK; rw [if_pos (wanted_none rfl)]; have o3 : a.tmps[3]? = some (.pointer (some ⟨w.heap.size, 0, none⟩)) := out 3 (by kernel_rfl); clear out get; obtain ⟨r0, -⟩ := RX.out z hb; go_simp; exact hK _ _ rfl (Below.refl _ _) (fun h => by cases h)
    · intro a z K out get hb hK; rw [if_pos (wanted_none rfl)]; obtain ⟨y20, hy20, rfl⟩ := get 0 _ _ rfl rfl (by kernel_rfl); clear out get; go_simp; exact hK _ _ rfl (Below.refl _ _) (fun h => by cases h)
    · intro a z K out get hb hK; rw [if_pos (wanted_none rfl)]; obtain ⟨y21, hy21, rfl⟩ := get 1 _ _ rfl rfl (by kernel_rfl); clear out get; go_simp; exact hK _ _ rfl (Below.refl _ _) (fun h => by cases h)
    · intro a z K out get hb hK; rw [if_pos (wanted_none rfl)]; obtain ⟨y22, hy22, rfl⟩ := get 2 _ _ rfl rfl (by kernel_rfl); clear out get; obtain ⟨-, r1, -⟩ := RX.out z hb; go_simp; exact hK _ _ rfl (Below.refl _ _) (fun h => by cases h)
    · intro a z K out get hb hK; rw [if_pos (wanted_none rfl)]; have o4 : a.tmps[4]? = some (.pointer (some ⟨w.heap.size + 1, 0, none⟩)) := out 4 (by kernel_rfl); clear out get; obtain ⟨-, -, -, -, q0, q1, q2, q3, q4, q5⟩ := RX.out z hb; go_simp; exact hK _ _ rfl (Below.refl _ _) (fun h => by cases h)
    · intro a z K out get hb hK; rw [if_pos (wanted_none rfl)]; obtain ⟨y23, hy23, rfl⟩ := get 3 _ _ rfl rfl (by kernel_rfl); clear out get; go_simp; exact hK _ _ rfl (Below.refl _ _) (fun h => by cases h)
    · intro a z K out get hb hK; rw [if_pos (wanted_none rfl)]; clear out get; go_simp; exact hK _ _ ⟨_, rfl, blk_new _ _⟩ (bel_al _ _) (fun h => by cases h)
    refine ao_finA (isD := fun s => decide (20 ≤ s) && decide (s ≤ 29)) (by kernel_rfl) ?_; intro f z hv hne hb; clear hne; have e20 : f 20 = _ := hv 0 _ _ (by decide) rfl rfl; have e23 : f 23 = _ := hv 3 _ _ (by decide) rfl rfl; have e24 : f 24 = _ := hv 4 _ _ (by decide) rfl rfl; have e25 : f 25 = _ := hv 5 _ _ (by decide) rfl rfl; obtain ⟨gz, e26, hz⟩ := hv 6 _ _ (by decide) rfl rfl; clear hv; generalize hF : (Act.mk (List.toArray (frm f _ 0 _)) _) = fr; simp [frm] at hF; rw [e20, e23, e24, e25, e26] at hF; subst hF; generalize f 21 = u21 at *; generalize f 22 = u22 at *; generalize f 27 = u27 at *; generalize f 28 = u28 at *; generalize f 29 = u29 at *; clear e20 e23 e24 e25 e26 f; refine wp_tail4 (n := 7) (by kernel_rfl) rfl rfl rfl rfl ?_; have HZB := Lib.hid hb; clear hb RX; refine wpList_append_lies _ rfl (.tmp 23) (.tmp 26) 27 rfl 0 39 i0 z0 6 64 Tryz.underlying27 hi0 hz0 hz1 hz2'.out hz3 (by decide) (.slice al m.l.length vc) m.l.length xs rfl (ownR_below OX.out HZB.out) ⟨gz, 0, none⟩ 1 1 [.int .u8 0, .int .u64 0, .int .u64 0, .int .u64 0, .int .u64 0, .slice none 0 0] rfl rfl (zero_at hz) zero6_one (by decide) (by unfold maxLen; omega) (by omega) (Nat.zero_le _) _ rfl ?_; intro g' cap' w2 hown hgrow hat hlt2; obtain ⟨B2, ne1, ne2, p2, hneb, O2⟩ := SX.out.grown HZB.out hgrow hat HDX.out; obtain ⟨⟨n0, n1, n2, n3, n4, n5⟩, k0, k1, k2, k3, k4, k5⟩ := new6 OX.out.1 hown; have ne1' : ¬ g' = mb := fun e => ne1 e.symm; have ne2' : ¬ g' = w.heap.size := fun e => ne2 e.symm; obtain ⟨⟨-, b1, -, -⟩, ⟨-, b5, -, -⟩, bf⟩ := B2.cells; have bf1 := bf 1
    have D3 := Lib.hid (show AddDn X B w mb (.slice (some ⟨g', 0, none⟩) (m.l.length + 1) cap') bm K m x (put6 (w2.setCell ⟨mb, 1, none⟩ (.slice (some ⟨g', 0, none⟩) (m.l.length + 1) cap')) g' (m.l.length * 6) (.int .u8 y0) (.int .u64 y1) (.int .u64 y2) (.int .u64 y3) (.int .u64 y4) (.slice yl yn yc)) from
      SX.out.pushed OX.out VX.out HZB.out hgrow hat ((Fm.set (X := fun b => b = g' ∨ b = mb) ⟨mb, 1, none⟩ _ (.inr rfl)).trans (fm_put6 _ _ _ _ _ _ _ _ _ (.inl rfl)))
        (own_put6 OX.out.1 (own_row (w' := w2.setCell ⟨mb, 1, none⟩ (.slice (some ⟨g', 0, none⟩) (m.l.length + 1) cap')) hown (Below.heap_setCell _ _ _ _ ne1')) _ _ _ _ _ _) ((MemB.set1 B2 _).of (put6_other _ _ _ _ _ _ _ _ _ ne1)))
    have O3 := Lib.hid ((((((((O2.setCell (a := ⟨mb, 1, none⟩) hneb.1 (.slice (some ⟨g', 0, none⟩) (m.l.length + 1) cap')).setCell (a := ⟨g', m.l.length * 6, none⟩) hneb.2 (.int .u8 y0)).setCell (a := ⟨g', m.l.length * 6 + 1, none⟩) hneb.2 (.int .u64 y1)).setCell (a := ⟨g', m.l.length * 6 + 2, none⟩) hneb.2 (.int .u64 y2)).setCell (a := ⟨g', m.l.length * 6 + 3, none⟩) hneb.2 (.int .u64 y3)).setCell (a := ⟨g', m.l.length * 6 + 4, none⟩) hneb.2 (.int .u64 y4)).setCell (a := ⟨g', m.l.length * 6 + 5, none⟩) hneb.2 (.slice yl yn yc))); have hkey := key_of ht; have hwv : (Lit.int .i64 (m.l.length : Int)).wf = true := lit_wf (by omega); clear hown hgrow hat hlt2 B2 O2 bf hz HZB OX VX SX HDX; go_wp2_with (at_mapUpdate; refine wpList_mapUpdate_in _ rfl _ _ _ 71 rfl 9 3 keyed_str Tryz.underlying71 _ bm m.l.length D rfl O3.out (by unfold maxLen; omega) _ _ _ rfl rfl hkey _ [] (plainElem_int Tryz.underlying3 hwv) ?_; intro w4 hown4 hturn4; have HO4 := Lib.hid hown4; have HT4 := Lib.hid hturn4.grown; clear hown4 hturn4); go_ret; exact ⟨rfl, D3.out.close HMI.out hx hn HO4.out HT4.out⟩
end Go.Proofs.YthgghaaddankoaaGreatDoor
/- Lemmas of mine. -/
namespace Go.Proofs.YthgghaaddankoaaGreatDoor
open Go.RowKit Go.Maps
theorem MM.find_look {m : MM} {r : Rx} (h : mayR r = true) : m.find r = m.look (normX r) := by unfold MM.find MM.look; rw [if_pos h]
theorem MM.find_no' {m : MM} {r : Rx} (h : mayR r = false) : m.find r = (m, 0, false) := by unfold MM.find; rw [h, if_neg (by decide)]
theorem MM.put_no' {m : MM} {r : Rx} (h : mayR r = false) : m.put r = (m, 0, false) := by unfold MM.put; rw [h, if_neg (by decide)]
theorem MM.put_look {m m' : MM} {r : Rx} {i : Int} {b : Bool} (h : mayR r = true) (hl : m.look (normX r) = (m', i, b)) :
    (b = true → m.put r = (m', i, true)) ∧ (b = false → i = 0 ∧ normX r ∉ m.l ∧ m'.l = m.l ∧ m'.most = m.most ∧ m.put r = if m.most ≤ m.l.length then (m', 0, false) else (⟨m'.most, m'.l ++ [normX r], m'.all, m'.met⟩, (m'.l.length : Int), true)) := by
  unfold MM.look at hl; unfold MM.put; rw [if_pos h]
  by_cases hi : 0 ≤ placeI m.l (normX r)
  · rw [if_pos hi] at hl ⊢
    cases hl
    exact ⟨(fun _ => rfl), (fun e => by cases e)⟩
  · rw [if_neg hi] at hl ⊢
    cases hl
    refine ⟨(fun e => by cases e), (fun _ => ⟨rfl, (fun hx => ?_), rfl, rfl, rfl⟩)⟩
    rcases placeI_cases m.l (normX r) with ⟨j, e, _⟩ | ⟨_, hn⟩
    · rw [e] at hi; omega
    · exact hn hx
theorem may_one11 (r : Rx) : [r].all mayR = mayR r := by simp
theorem may_call {ok : Nat → Prop} (r : Rx) (g : Nat) (W : World) (h : RowAt ok W (some ⟨g, 0, none⟩) [r]) : Calls Tryz.prog 25 #[.slice (some ⟨g, 0, none⟩) 1 1] W fun e w' => e = .returned (.bool (mayR r)) ∧ Below W.heap.size W w' := by
  have := mayX [r] (some ⟨g, 0, none⟩) 1 W (by simp) h; rw [may_one11] at this; exact this
theorem may_new {ok : Nat → Prop} {r : Rx} {W : World} {x0 x1 x2 x3 x4 x5 : Value} (h : ReAt ok W (.agg #[x0, x1, x2, x3, x4, x5]) r) : RowAt (fun _ => True) (W.alloc (.cells #[x0, x1, x2, x3, x4, x5] 39)) (some ⟨W.heap.size, 0, none⟩) [r] := row_new h
set_option maxRecDepth 100000 in
set_option maxHeartbeats 4000000 in
theorem findMemo_any {X : Nat → Prop} {w : World} {mb : Nat} {v mv vx : Value} {d : Int} {K : Nat → Prop} {m : MM} {ok : Nat → Prop} {r : Rx} (hT : Tab w) (h : MemoAt X w mb v mv d K m) (hall : m.all ≤ 200000) (hmet : m.met ≤ 200000) (hre : ReAt ok w vx r) :
    Calls Tryz.prog 11 #[.pointer (some ⟨mb, 0, none⟩), vx] w (MemPost LandAt X (.pointer (some ⟨mb, 0, none⟩)) (m.find r) w) := by
  obtain ⟨x0, x1, x2, x3, x4, xl, xn, xc, rfl⟩ := cells_re hre; have hm0 := may_call r _ _ (may_new (hre.below (bel_al w (.cells #[.int .u8 x0, .int .u64 x1, .int .u64 x2, .int .u64 x3, .int .u64 x4, .slice xl xn xc] 39)))); rw [World.size_alloc] at hm0; have KM := Lib.hid hm0; have KN := Lib.hid fun W (hb : Below w.heap.size w W) => normL_any r _ W (hre.below hb); have KT := Lib.hid fun (ok : Nat → Prop) (x : Rx) (v : Value) (W : World) (hb : Below w.heap.size w W) => showText ok x v W (hT.below hb hT.1); have BX := Lib.hid (show (w.alloc (.cells #[.int .u8 x0, .int .u64 x1, .int .u64 x2, .int .u64 x3, .int .u64 x4, .slice xl xn xc] 39)).heap[w.heap.size]? = some (.cells #[.int .u8 x0, .int .u64 x1, .int .u64 x2, .int .u64 x3, .int .u64 x4, .slice xl xn xc] 39) ∧ Below w.heap.size w (w.alloc (.cells #[.int .u8 x0, .int .u64 x1, .int .u64 x2, .int .u64 x3, .int .u64 x4, .slice xl xn xc] 39)) from ⟨blk_new w _, bel_al w _⟩); have HM := Lib.hid h; have HF := Lib.hid (show mayR r = true → FormE (normX r) from form_norm hre); clear h hre hT hm0; obtain ⟨c0, c1, c2, c3, c4, c5, -⟩ := cellsR BX.out.1; obtain ⟨PR, hPR⟩ : ∃ x, x = m.find r := ⟨_, rfl⟩; rw [← hPR]; have HPR := Lib.hid hPR; clear hPR; go_enter Tryz.func11, Tryz.ntmps11; go_wp2_with fail; refine KM.out.mono ?_; rintro e w1 ⟨rfl, hb1⟩; clear c0 c1 c2 c3 c4 c5; have hb1' := BX.out.2.trans (((bel_al _ _).trans (hb1.mono (by simp))).mono BX.out.2.size); have B1 := Lib.hid (show w1.heap[w.heap.size]? = some (.cells #[.int .u8 x0, .int .u64 x1, .int .u64 x2, .int .u64 x3, .int .u64 x4, .slice xl xn xc] 39) ∧ Below w.heap.size w w1 from ⟨(hb1.block _ (by simp; omega)).trans ((Below.heap_alloc _ _ _ (by simp)).trans BX.out.1), hb1'⟩); clear BX KM hb1 hb1'; obtain ⟨c0, c1, c2, c3, c4, c5, -⟩ := cellsR B1.out.1
  cases hm : mayR r with
  | false =>
    have HR := Lib.hid (show MemPost LandAt X (.pointer (some ⟨mb, 0, none⟩)) PR w (.returned (.tuple #[.int .i64 0, .bool false])) w1 from by
      rw [HPR.out, MM.find_no' hm]
      exact ⟨rfl, X, ⟨mb, v, mv, d, K, rfl, HM.out.below B1.out.2⟩, fun x hx => .inl hx, Fm.below B1.out.2⟩)
    go_wp2; go_ret2; exact HR.out
  | true =>
    replace HPR := Lib.hid (HPR.out.trans (MM.find_look hm)); have hfx := HF.out hm; clear HF; generalize normX r = nx at *; go_wp2_with fail; refine (KN.out _ B1.out.2).mono ?_; rintro e w2 ⟨v2, rfl, hv2, hb2⟩; have B2 := Lib.hid (B1.out.2.trans (hb2.mono B1.out.2.size)); have hlx := textX_length hv2; have KT2 := Lib.hid (KT.out _ nx v2 w2 B2.out (by obtain ⟨e, he1, -, he2⟩ := hfx; rw [← he1, Ex.size_rx]; omega) hv2); obtain ⟨y0, y1, y2, y3, y4, yl, yn, yc, rfl⟩ := cells_re hv2; clear hv2 hb2 KN KT B1 c0 c1 c2 c3 c4 c5; go_wp2_with fail; refine KT2.out.mono ?_; rintro e w3 ⟨rfl, hb3⟩; have B3 := Lib.hid (B2.out.trans (hb3.mono B2.out.size)); have KL := Lib.hid (number_any (HM.out.below B3.out) hall hmet hfx (by unfold maxLen; omega)); clear KT2 B2 hb3; go_wp2_with fail; refine KL.out.mono ?_; rintro e w4 ⟨rfl, M4, F4⟩
    have HR := Lib.hid (show MemPost LandAt X (.pointer (some ⟨mb, 0, none⟩)) PR w (.returned (.tuple #[.int .i64 (m.look nx).2.1, .bool (m.look nx).2.2])) w4 from by
      rw [HPR.out]
      exact ⟨rfl, X, ⟨mb, v, mv, d, K, rfl, M4⟩, fun x hx => .inl hx, (Fm.below B3.out).trans (F4.mono fun y _ hy => by rw [show y = mb from hy]; exact HM.out.memo)⟩)
    clear M4 F4 KL HPR; generalize m.look nx = L at *; obtain ⟨m', li, lb⟩ := L; go_wp2; go_ret2; exact HR.out
set_option maxRecDepth 100000 in
set_option maxHeartbeats 4000000 in
theorem putMemo_any {X : Nat → Prop} {w : World} {mb : Nat} {v mv vx : Value} {d : Int} {K : Nat → Prop} {m : MM} {ok : Nat → Prop} {r : Rx} (hT : Tab w) (h : MemoAt X w mb v mv d K m) (hok : m.Ok 200000) (hre : ReAt ok w vx r) :
    Calls Tryz.prog 31 #[.pointer (some ⟨mb, 0, none⟩), vx] w (MemPost LandAt X (.pointer (some ⟨mb, 0, none⟩)) (m.put r) w) := by
  have hall := hok.all; have hmet := Nat.le_trans hok.met hok.all; have hmost := hok.most; have hlen := hok.len; obtain ⟨x0, x1, x2, x3, x4, xl, xn, xc, rfl⟩ := cells_re hre; have hm0 := may_call r _ _ (may_new (hre.below (bel_al w (.cells #[.int .u8 x0, .int .u64 x1, .int .u64 x2, .int .u64 x3, .int .u64 x4, .slice xl xn xc] 39)))); rw [World.size_alloc] at hm0; have KM := Lib.hid hm0; have KN := Lib.hid fun W (hb : Below w.heap.size w W) => normL_any r _ W (hre.below hb); have KT := Lib.hid fun (ok : Nat → Prop) (x : Rx) (v : Value) (W : World) (hb : Below w.heap.size w W) => showText ok x v W (hT.below hb hT.1); have BX := Lib.hid (show (w.alloc (.cells #[.int .u8 x0, .int .u64 x1, .int .u64 x2, .int .u64 x3, .int .u64 x4, .slice xl xn xc] 39)).heap[w.heap.size]? = some (.cells #[.int .u8 x0, .int .u64 x1, .int .u64 x2, .int .u64 x3, .int .u64 x4, .slice xl xn xc] 39) ∧ Below w.heap.size w (w.alloc (.cells #[.int .u8 x0, .int .u64 x1, .int .u64 x2, .int .u64 x3, .int .u64 x4, .slice xl xn xc] 39)) from ⟨blk_new w _, bel_al w _⟩); have HM := Lib.hid h; have HF := Lib.hid (show mayR r = true → FormE (normX r) from form_norm hre); clear h hre hT hok hm0; obtain ⟨c0, c1, c2, c3, c4, c5, -⟩ := cellsR BX.out.1; obtain ⟨PR, hPR⟩ : ∃ x, x = m.put r := ⟨_, rfl⟩; rw [← hPR]; have HPR := Lib.hid hPR; clear hPR; go_enter Tryz.func31, Tryz.ntmps31; go_wp2_with fail; refine KM.out.mono ?_; rintro e w1 ⟨rfl, hb1⟩; clear c0 c1 c2 c3 c4 c5; have hb1' := BX.out.2.trans (((bel_al _ _).trans (hb1.mono (by simp))).mono BX.out.2.size); have B1 := Lib.hid (show w1.heap[w.heap.size]? = some (.cells #[.int .u8 x0, .int .u64 x1, .int .u64 x2, .int .u64 x3, .int .u64 x4, .slice xl xn xc] 39) ∧ Below w.heap.size w w1 from ⟨(hb1.block _ (by simp; omega)).trans ((Below.heap_alloc _ _ _ (by simp)).trans BX.out.1), hb1'⟩); clear BX KM hb1 hb1'; obtain ⟨c0, c1, c2, c3, c4, c5, -⟩ := cellsR B1.out.1
  cases hm : mayR r with
  | false =>
    have HR := Lib.hid (show MemPost LandAt X (.pointer (some ⟨mb, 0, none⟩)) PR w (.returned (.tuple #[.int .i64 0, .bool false])) w1 from by
      rw [HPR.out, MM.put_no' hm]
      exact ⟨rfl, X, ⟨mb, v, mv, d, K, rfl, HM.out.below B1.out.2⟩, fun x hx => .inl hx, Fm.below B1.out.2⟩)
    go_wp2; go_ret2; exact HR.out
  | true =>
    have HPL := Lib.hid fun m' i b => MM.put_look (m := m) (m' := m') (i := i) (b := b) hm; rw [← HPR.out] at HPL; have hfx := HF.out hm; clear HF HPR; generalize normX r = nx at *; go_wp2_with fail; refine (KN.out _ B1.out.2).mono ?_; rintro e w2 ⟨v2, rfl, hv2, hb2⟩; have B2 := Lib.hid (B1.out.2.trans (hb2.mono B1.out.2.size)); have hlx := textX_length hv2; (have hsx : nx.size ≤ 1000000 := by obtain ⟨e, he1, -, he2⟩ := hfx; rw [← he1, Ex.size_rx]; omega); obtain ⟨y0, y1, y2, y3, y4, yl, yn, yc, rfl⟩ := cells_re hv2; have hal := bel_al w2 (.cells #[.int .u8 y0, .int .u64 y1, .int .u64 y2, .int .u64 y3, .int .u64 y4, .slice yl yn yc] 39); have FB := Lib.hid (show (w2.alloc (.cells #[.int .u8 y0, .int .u64 y1, .int .u64 y2, .int .u64 y3, .int .u64 y4, .slice yl yn yc] 39)).heap[w2.heap.size]? = some (.cells #[.int .u8 y0, .int .u64 y1, .int .u64 y2, .int .u64 y3, .int .u64 y4, .slice yl yn yc] 39) ∧ Below w.heap.size w (w2.alloc (.cells #[.int .u8 y0, .int .u64 y1, .int .u64 y2, .int .u64 y3, .int .u64 y4, .slice yl yn yc] 39)) from ⟨blk_new w2 _, B2.out.trans (hal.mono B2.out.size)⟩); have HV := Lib.hid ((hv2.imp (ok' := fun b => w.heap.size ≤ b) fun b _ hb => Nat.le_trans B1.out.2.size hb).below hal); have KT2 := Lib.hid (KT.out _ nx _ _ FB.out.2 hsx HV.out); clear hv2 hb2 KN KT B1 hal c0 c1 c2 c3 c4 c5; obtain ⟨f0, f1, f2, f3, f4, f5, -⟩ := cellsR FB.out.1; go_wp2_with fail; refine KT2.out.mono ?_; rintro e w3 ⟨rfl, hb3⟩; have F3 := Lib.hid (show w3.heap[w2.heap.size]? = some (.cells #[.int .u8 y0, .int .u64 y1, .int .u64 y2, .int .u64 y3, .int .u64 y4, .slice yl yn yc] 39) ∧ Below w.heap.size w w3 from ⟨(hb3.block _ (by simp)).trans FB.out.1, FB.out.2.trans (hb3.mono FB.out.2.size)⟩); have HV3 := Lib.hid (HV.out.below hb3); have KL := Lib.hid (number_any (HM.out.below F3.out.2) hall hmet hfx (by unfold maxLen; omega)); clear KT2 FB HV hb3 f0 f1 f2 f3 f4 f5; go_wp2_with fail; refine KL.out.mono ?_; rintro e w4 ⟨rfl, M4, F4⟩; have W4 := Lib.hid (show Fm X w w4 from (Fm.below F3.out.2).trans (F4.mono fun y _ hy => by rw [show y = mb from hy]; exact HM.out.memo)); have hmb := HM.out.lt mb HM.out.memo; have hf4 := F3.out.2.size; have FB4 := Lib.hid ((F4.block _ (Array.getElem?_eq_some_iff.1 F3.out.1).1 (show ¬ w2.heap.size = mb from by have := B2.out.size; omega)).trans F3.out.1); have HV4 := Lib.hid (show ReAt (fun b => w.heap.size ≤ b) w4 _ nx from HV3.out.go ⟨F4.size, fun b hl hb => ⟨hb, F4.block b hl (show ¬ b = mb from by have : w.heap.size ≤ b := hb; omega)⟩⟩); have HM4 := Lib.hid M4; clear KL M4 F4 HV3 F3 B2; have HPL2 := Lib.hid (HPL.out _ _ _ (show m.look nx = ((m.look nx).1, (m.look nx).2.1, (m.look nx).2.2) from rfl)); clear HPL; generalize m.look nx = L at *; obtain ⟨m', li, lb⟩ := L; simp only at HPL2 HM4
    cases lb with
    | true =>
      have HR := Lib.hid (show MemPost LandAt X (.pointer (some ⟨mb, 0, none⟩)) PR w (.returned (.tuple #[.int .i64 li, .bool true])) w4 from by
        rw [HPL2.out.1 rfl]
        exact ⟨rfl, X, ⟨mb, v, mv, d, K, rfl, HM4.out⟩, fun x hx => .inl hx, W4.out⟩)
      clear HPL2 HM4 W4; go_wp2; go_ret2; exact HR.out
    | false =>
      obtain ⟨rfl, hnx, hml, hmm, hpr⟩ := HPL2.out.2 rfl; have KR := Lib.hid (room_land HM4.out (by omega) (by rw [hml, hmm]; exact hlen))
      by_cases hfull : m.most ≤ m.l.length
      · (have hq : (((m'.most : Int) - (m'.l.length : Int)) == 0) = true := by rw [hml, hmm]; simp; omega); rw [if_pos hfull] at hpr
        have HR := Lib.hid fun w5 (hb : Below w4.heap.size w4 w5) => (show MemPost LandAt X (.pointer (some ⟨mb, 0, none⟩)) PR w (.returned (.tuple #[.int .i64 0, .bool false])) w5 from by
          rw [hpr]
          exact ⟨rfl, X, ⟨mb, v, mv, d, K, rfl, HM4.out.below hb⟩, fun x hx => .inl hx, W4.out.trans (Fm.below hb)⟩)
        clear HPL2 HM4 hpr hml hmm hfull; go_wp2_with fail; refine KR.out.mono ?_; rintro e w5 ⟨rfl, hb5⟩; have HR5 := Lib.hid (HR.out w5 hb5); clear HR KR hb5; go_wp2; go_ret2; exact HR5.out
      · (have hq : (((m'.most : Int) - (m'.l.length : Int)) == 0) = false := by rw [hml, hmm]; simp; omega); rw [if_neg hfull] at hpr; have KA := Lib.hid fun w5 (hb : Below w4.heap.size w4 w5) => addMemo_any (B := w.heap.size) (HM4.out.below hb) (by rw [hml]; omega) hfx (by rw [hml]; exact hnx) (by unfold maxLen; omega) (HV4.out.below hb) (fun b h => h) HM.out.lt (Nat.le_trans W4.out.size hb.size); have HPR := Lib.hid hpr; clear HPL2 hpr hml hmm hfull; go_wp2_with fail; refine KR.out.mono ?_; rintro e w5 ⟨rfl, hb5⟩; obtain ⟨f0, f1, f2, f3, f4, f5, -⟩ := cellsR ((hb5.block _ (Array.getElem?_eq_some_iff.1 FB4.out).1).trans FB4.out); have KA5 := Lib.hid (KA.out w5 hb5); have W5 := Lib.hid (W4.out.trans (Fm.below hb5)); clear KR KA W4 HM4 hb5; go_wp2_with fail; refine KA5.out.mono ?_; rintro e w6 ⟨rfl, X', h1, h2, h3⟩
        have HR := Lib.hid (show MemPost LandAt X (.pointer (some ⟨mb, 0, none⟩)) PR w (.returned (.tuple #[.int .i64 (m'.l.length : Int), .bool true])) w6 from by
          rw [HPR.out]
          exact ⟨rfl, X', h1, h2, W5.out.trans h3⟩)
        clear HPR h1 h2 h3 W5 KA5 f0 f1 f2 f3 f4 f5; go_wp2; go_ret2; exact HR.out
end Go.Proofs.YthgghaaddankoaaGreatDoor
/- Lemmas of mine. -/
namespace Go.Proofs.YthgghaaddankoaaGreatDoor
open Go.RowKit Go.Maps
theorem ret_re11 {fn : Func} {R : Ending → World → Prop} {a : Act} {W : World} {k i g : Nat} {x0 x1 x2 x3 x4 x5 : Value} {fz : Nat × Nat} (hB : W.heap[g]? = some (.cells #[x0, x1, x2, x3, x4, x5] 39 fz)) (hres : fn.results = #[.cell k 39, .tmp i]) (hslot : a.tmps.getD k undef = .pointer (some ⟨g, 0, none⟩)) (hd : a.defers = []) (hR : R (.returned (.tuple #[.agg #[x0, x1, x2, x3, x4, x5], a.tmps.getD i undef])) W) : bodyPost Tryz.prog fn R .ret a W := by
  (have c0 : W.cell? ⟨g, 0, none⟩ = some x0 := by rw [Lib.cell_of_heap hB]; rfl); (have c1 : W.cell? ⟨g, 1, none⟩ = some x1 := by rw [Lib.cell_of_heap hB]; rfl); (have c2 : W.cell? ⟨g, 2, none⟩ = some x2 := by rw [Lib.cell_of_heap hB]; rfl); (have c3 : W.cell? ⟨g, 3, none⟩ = some x3 := by rw [Lib.cell_of_heap hB]; rfl); (have c4 : W.cell? ⟨g, 4, none⟩ = some x4 := by rw [Lib.cell_of_heap hB]; rfl); (have c5 : W.cell? ⟨g, 5, none⟩ = some x5 := by rw [Lib.cell_of_heap hB]; rfl); refine bodyPost_ret (v := .tuple #[.agg #[x0, x1, x2, x3, x4, x5], a.tmps.getD i undef]) ?_ hd hR; (have hslot' : a.tmps[k]?.getD undef = .pointer (some ⟨g, 0, none⟩) := by simpa using hslot); simp [results, hres, hslot', go_sem, c0, c1, c2, c3, c4, c5]
def putInv11 (X : Nat → Prop) (w : World) (p : Value) (m : MM) (l : List Rx) (y6 y7 y12 : Value) (wr : World) : Prop := ∃ i : Nat, i ≤ l.length ∧ y12 = .int .i64 i ∧ y6 = .int .i64 (m.puts (l.take i)).2.1 ∧ y7 = .bool (m.puts (l.take i)).2.2 ∧ (∃ X', LandAt X' wr p (m.puts (l.take i)).1 ∧ ∀ x, X' x → X x ∨ w.heap.size ≤ x) ∧ Fm X w wr
theorem MM.puts_take (m : MM) (l : List Rx) (i : Nat) (h : i < l.length) : m.puts (l.take (i + 1)) = (m.puts (l.take i)).1.put l[i] := by rw [List.take_succ_eq_append_getElem h, MM.puts_snoc]
def TabB : Nat := 0
theorem Tab.fm {X : Nat → Prop} {w w' : World} (h : Tab w) (hf : Fm X w w') (hX : ¬ X TabB) : Tab w' :=
  ⟨Nat.lt_of_lt_of_le h.1 hf.size, fun j hj => (World.cell?_of_block (a := ⟨TabB, j, none⟩) (hf.block TabB h.1 hX)).trans (h.2 j hj)⟩
set_option maxRecDepth 100000 in
set_option maxHeartbeats 4000000 in
theorem putsMemo_any {X : Nat → Prop} {w : World} {mb : Nat} {m : MM} {ok : Nat → Prop} (l : List Rx) (al : Option Addr) (cap : Nat) (hT : Tab w) (hTX : ¬ X TabB) (h : LandAt X w (.pointer (some ⟨mb, 0, none⟩)) m) (hok : m.Ok 100000) (hl : l.length ≤ 20) (hR : RowAt ok w al l) (hX : ∀ b, ok b → ¬ X b) :
    Calls Tryz.prog 13 #[.pointer (some ⟨mb, 0, none⟩), .slice al l.length cap] w (MemPost LandAt X (.pointer (some ⟨mb, 0, none⟩)) (m.puts l) w) := by
  have KP := Lib.hid fun (i : Nat) (hi : i < l.length) (X' : Nat → Prop) (W W' : World) (v : Value) (hb : Fm X w W) (hw : Below W.heap.size W W') (ha : LandAt X' W (.pointer (some ⟨mb, 0, none⟩)) (m.puts (l.take i)).1) (hv : ReAt ok W v l[i]) => show Calls Tryz.prog 31 #[.pointer (some ⟨mb, 0, none⟩), v] W' (MemPost LandAt X' (.pointer (some ⟨mb, 0, none⟩)) (m.puts (l.take (i + 1))) W') from by
    obtain ⟨mb', vf, mv, d, K, hp, hm⟩ := ha; injection hp with hp; injection hp with hp; injection hp with hp; subst hp; rw [MM.puts_take m l i hi]; have := hok.puts (l.take i); exact putMemo_any ((hT.fm hb hTX).go hw) (hm.below hw) (this.mono (by simp; omega)) (hv.below hw)
  have HI0 := Lib.hid (show putInv11 X w (.pointer (some ⟨mb, 0, none⟩)) m l (.int .i64 0) (.bool false) (.int .i64 0) w from ⟨0, Nat.zero_le _, rfl, by simp [MM.puts], by simp [MM.puts], ⟨X, by simpa [MM.puts] using h, fun x hx => .inl hx⟩, Fm.refl _ _⟩); have HR := Lib.hid hR; have HX := Lib.hid hX; have HN := Lib.hid hl; obtain ⟨n, hn⟩ : ∃ n, n = l.length := ⟨_, rfl⟩; rw [← hn]; have HNN := Lib.hid hn; clear h hok hR hX hl hn hT; go_enter Tryz.func13, Tryz.ntmps13; go_wp2
  go_loopw [6, 7, 12] (fun y6 y7 y12 wr => putInv11 X w (.pointer (some ⟨mb, 0, none⟩)) m l y6 y7 y12 wr) (fun _ _ y12 _ => l.length - (intOf y12).toNat)
  case atStart => exact HI0.out
  case round =>
    obtain ⟨i, hi, rfl, rfl, rfl, ⟨X', ha, hX'⟩, hf⟩ := hrel
    by_cases hlt : i < l.length
    · obtain ⟨b, off, hab, hblt, hokb, hnode⟩ := HR.out.kidOk (i := i) hlt; subst hab; (have q1 : (i : Int) < (n : Int) := by have := HNN.out; omega); (have q2 : (i : Int) ≤ 20 := by have := HN.out; omega); have hnode' := NodeAt.go (w' := wr) (ok' := ok) ⟨hf.size, fun b' h1 h2 => ⟨h2, hf.block b' h1 (HX.out b' h2)⟩⟩ _ (hf.block b hblt (HX.out b hokb)) hnode; obtain ⟨y0, y1, y2, y3, y4, yl, yn, yc, ⟨c0, c1, c2, c3, c4, c5⟩, hre⟩ := hnode'.opq; have hb1 := bel_al wr (.cells #[.int .u8 y0, .int .u64 y1, .int .u64 y2, .int .u64 y3, .int .u64 y4, .slice yl yn yc] 39); have BX := Lib.hid (blk_new wr (.cells #[.int .u8 y0, .int .u64 y1, .int .u64 y2, .int .u64 y3, .int .u64 y4, .slice yl yn yc] 39)); have K := Lib.hid (KP.out i hlt X' wr (wr.alloc (.cells #[.int .u8 y0, .int .u64 y1, .int .u64 y2, .int .u64 y3, .int .u64 y4, .slice yl yn yc] 39)) _ hf hb1 ha hre); have FW := Lib.hid (hf.trans (Fm.below hb1)); have HXX := Lib.hid (show ∀ x, X' x → X x ∨ w.heap.size ≤ x from hX'); clear hnode hnode' hokb hre hf ha hX' hb1 KP HI0; go_wp2_with fail; refine K.out.mono ?_; rintro e w2 ⟨rfl, X2, h1, h2, h3⟩; have hsz := FW.out.size
      have HI := Lib.hid (show putInv11 X w (.pointer (some ⟨mb, 0, none⟩)) m l (.int .i64 (m.puts (l.take (i + 1))).2.1) (.bool (m.puts (l.take (i + 1))).2.2) (.int .i64 ((i + 1 : Nat) : Int)) w2 from
        ⟨i + 1, hlt, rfl, rfl, rfl, ⟨X2, h1, fun x hx => (h2 x hx).elim (HXX.out x) fun h => .inr (Nat.le_trans hsz h)⟩, FW.out.then h3 fun x hl hx => (HXX.out x hx).elim id fun h => absurd hl (Nat.not_lt.2 h)⟩)
      clear h1 h2 h3 K FW HXX c0 c1 c2 c3 c4 c5 hsz; generalize m.puts (l.take (i + 1)) = L at *; generalize m.puts (l.take i) = L0 at *; obtain ⟨m2, i2, b2⟩ := L; go_wp2; exact ⟨by simpa using HI.out, by have := HN.out; have := HNN.out; simp [intOf]; omega⟩
    · have he : l.take i = l := List.take_of_length_le (by omega); (have q1 : ¬ (i : Int) < (n : Int) := by have := HNN.out; omega); rw [he] at ha ⊢; have HE := Lib.hid (show MemPost LandAt X (.pointer (some ⟨mb, 0, none⟩)) (m.puts l) w (.returned (.tuple #[.int .i64 (m.puts l).2.1, .bool (m.puts l).2.2])) wr from ⟨rfl, X', ha, hX', hf⟩); clear ha hX' hf HI0 KP; generalize m.puts l = L at *; go_wp2; go_ret2; exact HE.out
theorem MemoAt.formAt {X : Nat → Prop} {w : World} {mb : Nat} {al : Option Addr} {n vc : Nat} {mv : Value} {d : Int} {K : Nat → Prop} {m : MM} (h : MemoAt X w mb (.slice al n vc) mv d K m) {i : Nat} {x : Rx} (hi : m.l[i]? = some x) :
    ∃ (g : Nat) (y0 y1 y2 y3 y4 : Int) (yl : Option Addr) (yn yc : Nat), al = some ⟨g, 0, none⟩ ∧ n = m.l.length ∧ g < w.heap.size ∧ (w.cell? ⟨g, i * 6, none⟩ = some (.int .u8 y0) ∧ w.cell? ⟨g, i * 6 + 1, none⟩ = some (.int .u64 y1) ∧ w.cell? ⟨g, i * 6 + 2, none⟩ = some (.int .u64 y2) ∧ w.cell? ⟨g, i * 6 + 3, none⟩ = some (.int .u64 y3) ∧ w.cell? ⟨g, i * 6 + 4, none⟩ = some (.int .u64 y4) ∧ w.cell? ⟨g, i * 6 + 5, none⟩ = some (.slice yl yn yc)) ∧ ReAt K w (.agg #[.int .u8 y0, .int .u64 y1, .int .u64 y2, .int .u64 y3, .int .u64 y4, .slice yl yn yc]) x := by
  obtain ⟨hil, hix⟩ := List.getElem?_eq_some_iff.1 hi; obtain ⟨xs, h1, h2⟩ := h.row; obtain ⟨_, ⟨hv, h0⟩ | ⟨g, cap, cur, hv, hB, hg, hle, hmax, hcs, htk⟩⟩ := h1
  · omega
  · injection hv with e1 e2 e3; subst e1 e2; obtain ⟨c0, c1, c2, c3, c4, c5, ⟨p0, p1, p2, p3, p4, p5⟩, hre⟩ := h2.2 i hil; obtain ⟨y0, y1, y2, y3, y4, yl, yn, yc, e⟩ := cells_re hre
    have hc : ∀ (j : Nat) (u : Value), j < m.l.length * 6 → xs[j]? = some u → w.cell? ⟨g, j, none⟩ = some u := fun j u hj hu => by
      rw [Lib.cell_of_heap hg]; rw [← htk, List.getElem?_take, if_pos hj] at hu
      simpa using hu
    rw [hix] at hre; simp at e; obtain ⟨rfl, rfl, rfl, rfl, rfl, rfl⟩ := e; exact ⟨g, y0, y1, y2, y3, y4, yl, yn, yc, rfl, rfl, (Array.getElem?_eq_some_iff.1 hg).1, ⟨hc _ _ (by omega) p0, hc _ _ (by omega) p1, hc _ _ (by omega) p2, hc _ _ (by omega) p3, hc _ _ (by omega) p4, hc _ _ (by omega) p5⟩, hre⟩
set_option maxRecDepth 100000 in
set_option maxHeartbeats 4000000 in
theorem tellMemo_any {X : Nat → Prop} {w : World} {mb : Nat} {v mv : Value} {d : Int} {K : Nat → Prop} {m : MM} (i : Int) (h : MemoAt X w mb v mv d K m) :
    Calls Tryz.prog 15 #[.pointer (some ⟨mb, 0, none⟩), .int .i64 i] w (TellPost (m.at i) w) := by
  have hb0 := bel_al w (.cells #[.int .u8 0, .int .u64 0, .int .u64 0, .int .u64 0, .int .u64 0, .slice none 0 0] 39); have KL := Lib.hid (len_land (h.below hb0)); obtain ⟨al, vc, rfl⟩ := h.form; have BZ := Lib.hid (show (w.alloc (.cells #[.int .u8 0, .int .u64 0, .int .u64 0, .int .u64 0, .int .u64 0, .slice none 0 0] 39)).heap[w.heap.size]? = some (.cells #[.int .u8 0, .int .u64 0, .int .u64 0, .int .u64 0, .int .u64 0, .slice none 0 0] 39) from blk_new w _); have BW := Lib.hid hb0; have HM := Lib.hid (h.below hb0); have HL := Lib.hid h.blk.lt; clear h hb0
  by_cases h0 : i < 0
  · rw [MM.at_none _ (by omega)]; clear KL; obtain ⟨z0, z1, z2, z3, z4, z5, -⟩ := cellsR BZ.out; go_enter Tryz.func15, Tryz.ntmps15; go_wp2; exact ret_re11 BZ.out Tryz.results15 rfl rfl ⟨_, rfl, bareAt _ _ 0 Ws.nil (by decide) Ws.nil_ok, BW.out⟩
  · obtain ⟨k, rfl⟩ : ∃ k : Nat, i = (k : Int) := ⟨i.toNat, by omega⟩
    by_cases hk : k < m.l.length
    · obtain ⟨x, hx, hat⟩ := MM.at_some m (i := (k : Int)) (by omega); rw [Int.toNat_natCast] at hx; rw [hat]; (have q1 : ¬ (m.l.length : Int) ≤ (k : Int) := by omega); (have q2 : (k : Int) < (m.l.length : Int) := by omega); obtain ⟨g, y0, y1, y2, y3, y4, yl, yn, yc, rfl, -, hg, ⟨c0, c1, c2, c3, c4, c5⟩, hre⟩ := HM.out.formAt hx; obtain ⟨⟨-, a1, -, -⟩, -, -⟩ := HM.out.blk.cells; have hal := bel_al (w.alloc (.cells #[.int .u8 0, .int .u64 0, .int .u64 0, .int .u64 0, .int .u64 0, .slice none 0 0] 39)) (.cells #[.int .u8 y0, .int .u64 y1, .int .u64 y2, .int .u64 y3, .int .u64 y4, .slice yl yn yc] 39); have KT0 := then_any [x] _ 1 _ (by simp) (row_new hre); rw [World.size_alloc] at KT0; have KT := Lib.hid (show Calls Tryz.prog 32 #[.slice (some ⟨w.heap.size + 1, 0, none⟩) 1 1] _ (NewPost x _) from KT0); have B1 := Lib.hid (show ((w.alloc (.cells #[.int .u8 0, .int .u64 0, .int .u64 0, .int .u64 0, .int .u64 0, .slice none 0 0] 39)).alloc (.cells #[.int .u8 y0, .int .u64 y1, .int .u64 y2, .int .u64 y3, .int .u64 y4, .slice yl yn yc] 39)).heap[w.heap.size]? = some (.cells #[.int .u8 0, .int .u64 0, .int .u64 0, .int .u64 0, .int .u64 0, .slice none 0 0] 39) ∧ Below w.heap.size w ((w.alloc (.cells #[.int .u8 0, .int .u64 0, .int .u64 0, .int .u64 0, .int .u64 0, .slice none 0 0] 39)).alloc (.cells #[.int .u8 y0, .int .u64 y1, .int .u64 y2, .int .u64 y3, .int .u64 y4, .slice yl yn yc] 39)) from ⟨(Below.heap_alloc _ _ _ (by simp)).trans BZ.out, BW.out.trans (hal.mono (by simp))⟩); clear KT0 hre hx hat hal HM; go_enter Tryz.func15, Tryz.ntmps15; go_wp2_with fail; refine KL.out.mono ?_; rintro e w1 ⟨rfl, rfl⟩; clear KL; go_wp2_with fail; refine KT.out.mono ?_; rintro e w2 ⟨v2, rfl, hv2, hb2⟩; obtain ⟨z0, z1, z2, z3, z4, zl, zn, zc, rfl⟩ := cells_re hv2; have hz : w2.heap[w.heap.size]? = some (.cells #[.int .u8 0, .int .u64 0, .int .u64 0, .int .u64 0, .int .u64 0, .slice none 0 0] 39) := (hb2.block _ (by simp; omega)).trans B1.out.1; obtain ⟨d0, d1, d2, d3, d4, d5, p0, p1, p2, p3, p4, p5⟩ := cellsR hz; have HZ := Lib.hid (putR hz (.int .u8 z0) (.int .u64 z1) (.int .u64 z2) (.int .u64 z3) (.int .u64 z4) (.slice zl zn zc)); have HV := Lib.hid (show ReAt (New w.heap.size) (putW w2 w.heap.size (.int .u8 z0) (.int .u64 z1) (.int .u64 z2) (.int .u64 z3) (.int .u64 z4) (.slice zl zn zc)) (.agg #[.int .u8 z0, .int .u64 z1, .int .u64 z2, .int .u64 z3, .int .u64 z4, .slice zl zn zc]) x from hv2.go ⟨by rw [putW_size]; exact Nat.le_refl _, fun b _ hb => ⟨by unfold New at hb ⊢; simp at hb; omega, putW_other _ _ _ _ _ _ _ _ (by unfold New at hb; simp at hb; omega)⟩⟩); have HB := Lib.hid (putB (B1.out.2.trans (hb2.mono (by simp; omega))) (Nat.le_refl w.heap.size) (.int .u8 z0) (.int .u64 z1) (.int .u64 z2) (.int .u64 z3) (.int .u64 z4) (.slice zl zn zc)); unfold putW at HZ HV HB; clear hv2 hb2 hz KT B1 BZ BW c0 c1 c2 c3 c4 c5 a1; go_wp2; exact ret_re11 HZ.out Tryz.results15 rfl rfl ⟨_, rfl, HV.out, HB.out⟩
    · rw [MM.at_none _ (by omega)]; (have q1 : (m.l.length : Int) ≤ (k : Int) := by omega); obtain ⟨z0, z1, z2, z3, z4, z5, -⟩ := cellsR BZ.out; go_enter Tryz.func15, Tryz.ntmps15; go_wp2_with fail; refine KL.out.mono ?_; rintro e w1 ⟨rfl, rfl⟩; clear KL; go_wp2; exact ret_re11 BZ.out Tryz.results15 rfl rfl ⟨_, rfl, bareAt _ _ 0 Ws.nil (by decide) Ws.nil_ok, BW.out⟩
theorem find_nil {ok : Nat → Prop} (r : Rx) (vx : Value) (w : World) (hre : ReAt ok w vx r) :
    Calls Tryz.prog 11 #[.pointer none, vx] w fun e w' => e = .returned (.tuple #[.int .i64 0, .bool false]) ∧ Below w.heap.size w w' := by
  obtain ⟨x0, x1, x2, x3, x4, xl, xn, xc, rfl⟩ := cells_re hre; clear hre; go_enter Tryz.func11, Tryz.ntmps11; go_wp2; go_ret2; exact ⟨rfl, bel_al w _⟩
theorem put_nil {ok : Nat → Prop} (r : Rx) (vx : Value) (w : World) (hre : ReAt ok w vx r) :
    Calls Tryz.prog 31 #[.pointer none, vx] w fun e w' => e = .returned (.tuple #[.int .i64 0, .bool false]) ∧ Below w.heap.size w w' := by
  obtain ⟨x0, x1, x2, x3, x4, xl, xn, xc, rfl⟩ := cells_re hre; clear hre; go_enter Tryz.func31, Tryz.ntmps31; go_wp2; go_ret2; exact ⟨rfl, bel_al w _⟩
def putInv0 (w : World) (l : List Rx) (y6 y7 y12 : Value) (wr : World) : Prop := ∃ i : Nat, i ≤ l.length ∧ y12 = .int .i64 i ∧ y6 = .int .i64 0 ∧ y7 = .bool false ∧ Below w.heap.size w wr
set_option maxRecDepth 100000 in
set_option maxHeartbeats 4000000 in
theorem puts_nil {ok : Nat → Prop} (l : List Rx) (al : Option Addr) (cap : Nat) (w : World) (hl : l.length ≤ 20) (hR : RowAt ok w al l) :
    Calls Tryz.prog 13 #[.pointer none, .slice al l.length cap] w fun e w' => e = .returned (.tuple #[.int .i64 0, .bool false]) ∧ Below w.heap.size w w' := by
  have HR := Lib.hid hR; have HN := Lib.hid hl; obtain ⟨n, hn⟩ : ∃ n, n = l.length := ⟨_, rfl⟩; rw [← hn]; have HNN := Lib.hid hn; clear hR hl hn; go_enter Tryz.func13, Tryz.ntmps13; go_wp2
  go_loopw [6, 7, 12] (fun y6 y7 y12 wr => putInv0 w l y6 y7 y12 wr) (fun _ _ y12 _ => l.length - (intOf y12).toNat)
  case atStart => exact ⟨0, Nat.zero_le _, rfl, rfl, rfl, Below.refl _ _⟩
  case round =>
    obtain ⟨i, hi, rfl, rfl, rfl, hb⟩ := hrel
    by_cases hlt : i < l.length
    · obtain ⟨b, off, hab, hblt, hnode⟩ := (HR.out.below hb).kid (i := i) hlt; subst hab; (have q1 : (i : Int) < (n : Int) := by have := HNN.out; omega); (have q2 : (i : Int) ≤ 20 := by have := HN.out; omega); obtain ⟨y0, y1, y2, y3, y4, yl, yn, yc, ⟨c0, c1, c2, c3, c4, c5⟩, hre⟩ := hnode.opq; have hb1 := bel_al wr (.cells #[.int .u8 y0, .int .u64 y1, .int .u64 y2, .int .u64 y3, .int .u64 y4, .slice yl yn yc] 39); have BX := Lib.hid (blk_new wr (.cells #[.int .u8 y0, .int .u64 y1, .int .u64 y2, .int .u64 y3, .int .u64 y4, .slice yl yn yc] 39)); have K := Lib.hid (put_nil _ _ _ (hre.below hb1)); have FW := Lib.hid (hb.trans (hb1.mono hb.size)); clear hnode hre hb hb1; go_wp2_with fail; refine K.out.mono ?_; rintro e w2 ⟨rfl, hb2⟩; have HB := Lib.hid (FW.out.trans (hb2.mono FW.out.size)); clear hb2 K FW c0 c1 c2 c3 c4 c5; go_wp2; exact ⟨⟨i + 1, hlt, by simp, rfl, rfl, HB.out⟩, by have := HN.out; have := HNN.out; simp [intOf]; omega⟩
    · (have q1 : ¬ (i : Int) < (n : Int) := by have := HNN.out; omega); have HB := Lib.hid hb; clear hb; go_wp2; go_ret2; exact ⟨rfl, HB.out⟩
theorem tell_nil (i : Int) (w : World) : Calls Tryz.prog 15 #[.pointer none, .int .i64 i] w (TellPost (.node 0 Ws.nil [], false) w) := by
  have KL := Lib.hid (len_nil (w.alloc (.cells #[.int .u8 0, .int .u64 0, .int .u64 0, .int .u64 0, .int .u64 0, .slice none 0 0] 39))); have BZ := Lib.hid (show (w.alloc (.cells #[.int .u8 0, .int .u64 0, .int .u64 0, .int .u64 0, .int .u64 0, .slice none 0 0] 39)).heap[w.heap.size]? = some (.cells #[.int .u8 0, .int .u64 0, .int .u64 0, .int .u64 0, .int .u64 0, .slice none 0 0] 39) from blk_new w _); have BW := Lib.hid (bel_al w (.cells #[.int .u8 0, .int .u64 0, .int .u64 0, .int .u64 0, .int .u64 0, .slice none 0 0] 39)); obtain ⟨z0, z1, z2, z3, z4, z5, -⟩ := cellsR BZ.out
  by_cases h0 : i < 0
  · clear KL; go_enter Tryz.func15, Tryz.ntmps15; go_wp2; exact ret_re11 BZ.out Tryz.results15 rfl rfl ⟨_, rfl, bareAt _ _ 0 Ws.nil (by decide) Ws.nil_ok, BW.out⟩
  · (have q1 : 0 ≤ i := by omega); go_enter Tryz.func15, Tryz.ntmps15; go_wp2_with fail; refine KL.out.mono ?_; rintro e w1 ⟨rfl, rfl⟩; clear KL; go_wp2; exact ret_re11 BZ.out Tryz.results15 rfl rfl ⟨_, rfl, bareAt _ _ 0 Ws.nil (by decide) Ws.nil_ok, BW.out⟩
end Go.Proofs.YthgghaaddankoaaGreatDoor
/- Lemmas of mine. -/
namespace Go.Proofs.YthgghaaddankoaaGreatDoor
open Go.RowKit Go.Maps
def LandT (X : Nat → Prop) (w : World) (p : Value) (m : MM) : Prop := LandAt X w p m ∧ (Tab w → ¬ X TabB)
theorem LandAt.lt {X : Nat → Prop} {w : World} {p : Value} {m : MM} (h : LandAt X w p m) : ∀ x, X x → x < w.heap.size := by
  obtain ⟨mb, v, mv, d, K, rfl, hm⟩ := h; exact hm.lt
theorem LandT.keep {X : Nat → Prop} {w w' : World} {p : Value} {m : MM} (h : LandT X w p m) (hs : w.heap.size ≤ w'.heap.size) (hk : ∀ x, X x → w'.heap[x]? = w.heap[x]?) : LandT X w' p m := by
  obtain ⟨⟨mb, v, mv, d, K, rfl, hm⟩, ht⟩ := h; refine ⟨⟨mb, v, mv, d, K, rfl, hm.keep hs hk⟩, fun hT hx => ht ⟨hm.lt TabB hx, fun j hj => ?_⟩ hx⟩; exact (World.cell?_of_block (a := ⟨TabB, j, none⟩) (hk TabB hx)).symm.trans (hT.2 j hj)
theorem land_post {X : Nat → Prop} {w w' : World} {p : Value} {r : MM × Int × Bool} {e : Ending} (hT : Tab w) (hX : ¬ X TabB) (h : MemPost LandAt X p r w e w') : MemPost LandT X p r w e w' := by
  obtain ⟨h1, X', h2, h3, h4⟩ := h; refine ⟨h1, X', ⟨h2, fun _ hx => ?_⟩, h3, h4⟩
  rcases h3 TabB hx with h | h
  · exact hX h
  · exact absurd hT.1 (Nat.not_lt.2 h)
theorem new_tab {room : Int} {w w' : World} {p : Value} {X : Nat → Prop} (h : LandAt X w' p (MM.new room)) (hX : ∀ x, X x → x = w.heap.size) (hmb : p = .pointer (some ⟨w.heap.size, 0, none⟩)) : LandT X w' p (MM.new room) := by
  refine ⟨h, fun hT hx => ?_⟩; obtain ⟨mb, v, mv, d, K, hp, hm⟩ := h; rw [hmb] at hp; injection hp with hp; injection hp with hp; injection hp with hp; have h1 := hT.2 0 (by decide); have h2 := hm.blk.cells.1.1; rw [← hp, ← hX TabB hx] at h2; have h3 := h1.symm.trans h2; injection h3 with h3; injection h3 with h3
  cases h3
theorem mem_post0 {w w' : World} {e : Ending} {v : Value} (h : e = .returned v ∧ w' = w) : e = .returned v ∧ Below w.heap.size w w' := ⟨h.1, h.2 ▸ Below.refl _ _⟩
def landMemo : MemoI Tab where
  At := LandT
  lt := fun h => h.1.lt
  keep := fun h hs hk => h.keep hs hk
  new := fun room w => (new_land room w).mono fun e w' ⟨h1, X, h2, h3, h4⟩ => ⟨_, X, h1, new_tab h2 h3 rfl, fun x hx => by rw [h3 x hx]; exact Nat.le_refl _, h4⟩
  find := fun ok m r v p X w hok hT ⟨⟨mb, vf, mv, d, K, hp, hm⟩, ht⟩ hre hX => by
    subst hp; exact (findMemo_any hT hm (Nat.le_trans hok.all (by decide)) (Nat.le_trans hok.met (Nat.le_trans hok.all (by decide))) hre).mono fun e w' h => land_post hT (ht hT) h
  put := fun ok m l al cap p X w hok hT ⟨h, ht⟩ hl hR hX => by
    obtain ⟨mb, vf, mv, d, K, rfl, hm⟩ := h; exact (putsMemo_any l al cap hT (ht hT) ⟨mb, vf, mv, d, K, rfl, hm⟩ hok hl hR hX).mono fun e w' h => land_post hT (ht hT) h
  tell := fun m i p X w hok ⟨⟨mb, vf, mv, d, K, hp, hm⟩, ht⟩ => by
    subst hp; exact tellMemo_any i hm
  len := fun m p X w hok ⟨⟨mb, vf, mv, d, K, hp, hm⟩, ht⟩ => by
    subst hp; exact (len_land hm).mono fun e w' h => mem_post0 h
  room := fun m p X w hok ⟨⟨mb, vf, mv, d, K, hp, hm⟩, ht⟩ => by
    subst hp; exact room_land hm hok.most hok.len
  asked := fun m p X w hok ⟨⟨mb, vf, mv, d, K, hp, hm⟩, ht⟩ => by
    subst hp; exact asked_land hm
  find0 := fun ok r v w hre => find_nil r v w hre
  put0 := fun ok l al cap w hl hR => puts_nil l al cap w hl hR
  tell0 := fun i w => tell_nil i w
  len0 := fun w => (len_nil w).mono fun e w' h => mem_post0 h
  room0 := fun w => (room_nil w).mono fun e w' h => mem_post0 h
  asked0 := fun w => (asked_nil w).mono fun e w' h => mem_post0 h
end Go.Proofs.YthgghaaddankoaaGreatDoor
