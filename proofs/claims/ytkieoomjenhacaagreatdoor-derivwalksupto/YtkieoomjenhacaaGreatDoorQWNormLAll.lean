/- Lemmas of mine, merged: QWNormL, QWNormQ, QWNormR, QWDerJ, QWDerK, QWDerL, QWDerW, QWDerZ, QWDerAw, QWDerBs, QWDerivWalksW. -/
import Derived.Deep.CutRange
import Derived.Test.YtkieoomjenhacaaGreatDoorQWRdrDAll
import Derived.Test.YtkieoomjenhacaaGreatDoorQWOrdOAll
import Derived.Test.YtkieoomjenhacaaGreatDoorQWRexEAll
import Derived.Test.YtkieoomjenhacaaGreatDoorQWRexJAll
import Derived.Test.YtkieoomjenhacaaGreatDoorQWNullHAll
import Derived.Test.YtkieoomjenhacaaGreatDoorQWAnyOrdAll
import Derived.Deep.AppendLies
import Derived.Test.YtkieoomjenhacaaGreatDoorQWReadEAll
import Derived.Laws.OwnMore
import Derived.Laws.MakeOwn
import Derived.Test.YtkieoomjenhacaaGreatDoorQWRexBAll
import Derived.Test.YtkieoomjenhacaaGreatDoorQWSetEAll
import Derived.Test.YtkieoomjenhacaaGreatDoorQWSetAAll
/- Lemmas of mine. -/
namespace Go.Proofs.YtkieoomjenhacaaGreatDoor
open Go.RowKit
theorem onceR_len (l : List Rx) : (onceR l).length ≤ l.length := by
  have := onceFrom_length l []
  simpa [onceR] using this
theorem gathP_len (p : List Ex) : (gathP p).length ≤ p.length + 1 := by
  have h : (bareL p).length ≤ p.length := List.length_filter_le _ _; unfold gathP
  split
  · omega
  · simp only [List.length_append, List.length_singleton]; omega
theorem ofR_some {s : Ws} (h : s ≠ Ws.nil) : ofR s = (Ex.cls s).rx := by
  unfold ofR; rw [if_neg (fun e => h (sameW_iff.1 e))]
  rfl
def CutP (B : Nat) (X : Nat → Prop) (o : Nat) (ps : List Ex) (W1 w : World) : Prop := PV B X (Lo B) o ps w ∧ Below B W1 w
theorem last_any {ok : Nat → Prop} (ps : List Ex) (al : Option Addr) (cap : Nat) (w : World) (hl : ps.length ≤ 1000000) (h : RowAt ok w al (ps.map Ex.rx)) :
    Calls Tryz.prog 121 #[.slice al ps.length cap] w fun x w3 => ∃ (n3 : Nat) (al3 : Option Addr), x = .returned (.slice al3 n3 n3) ∧ Below w.heap.size w w3 ∧
      Calls Tryz.prog 120 #[.slice al3 n3 n3] w3 fun x w4 => ∃ (n4 : Nat) (al4 : Option Addr), x = .returned (.slice al4 n4 n4) ∧ Below w3.heap.size w3 w4 ∧
        Calls Tryz.prog 69 #[.slice al4 n4 n4] w4 (NewPost (foldA (canE ps)).rx w4) := by
  have K := sort_any (ps.map Ex.rx) al cap w (by rw [List.length_map]; exact hl) h; rw [List.length_map] at K; refine K.mono ?_; rintro x w3 ⟨al3, rfl, hr3, hb3⟩; refine ⟨_, al3, rfl, hb3, ?_⟩; (have hS : (sortR (ps.map Ex.rx)).length ≤ 1000000 := by rw [sortR_length, List.length_map]; exact hl); refine (once_any (sortR (ps.map Ex.rx)) al3 _ w3 hS hr3).mono ?_; rintro x w4 ⟨al4, rfl, hr4, hb4⟩; refine ⟨_, al4, rfl, hb4, ?_⟩; rw [foldA_rx, canE_map]; exact or_any _ al4 _ w4 (Nat.lt_of_le_of_lt (onceR_len _) (by omega)) hr4
set_option maxRecDepth 100000 in
set_option maxHeartbeats 8000000 in
theorem nmAlt_any (ok : Nat → Prop) (l : List Ex) (al0 : Option Addr) (cap : Nat) (w : World) (hlen : l.length < 2199023255552) (hM : (partL 5 l).length ≤ 900000) (hR : RowAt ok w al0 (l.map Ex.rx)) :
    Calls Tryz.prog 102 #[.slice al0 l.length cap] w (NewPost (altE l).rx w) := by
  obtain ⟨W1, hW1⟩ : ∃ x, x = ((w.alloc zR).alloc (.cells #[.slice none 0 0] 25)).alloc (.cells #[.int .u64 0, .int .u64 0, .int .u64 0, .int .u64 0] 24) := ⟨_, rfl⟩; (have hb1 : Below w.heap.size w W1 := by rw [hW1]; exact al3 w _ _ _); obtain ⟨hz, ho, hc, hsz⟩ := three_new w zR (.cells #[.slice none 0 0] 25) (.cells #[.int .u64 0, .int .u64 0, .int .u64 0, .int .u64 0] 24); rw [← hW1] at hz ho hc hsz; (have hB : w.heap.size + 1 ≤ W1.heap.size := by omega); have hR1 : RowAt (Lo (w.heap.size + 1)) W1 al0 (l.map Ex.rx) := (hR.imp (ok' := Lo (w.heap.size + 1)) fun b hb _ => Nat.lt_succ_of_lt hb).below hb1; obtain ⟨X, hX⟩ : ∃ X : Nat → Prop, X = fun b => b = w.heap.size + 1 ∨ b = w.heap.size + 2 := ⟨_, rfl⟩
  have hXB : ∀ x, X x → w.heap.size + 1 ≤ x := fun x h => by rw [hX] at h; rcases h with rfl | rfl <;> omega
  (have hXo : X (w.heap.size + 1) := by rw [hX]; exact .inl rfl); (have hXc : X (w.heap.size + 2) := by rw [hX]; exact .inr rfl)
  have hXl : ∀ x, X x → x < W1.heap.size := fun x h => by rw [hX] at h; rcases h with rfl | rfl <;> omega
  have hT : Tell 1000000 (w.heap.size + 1) W1 119 #[.pointer (some ⟨w.heap.size + 2, 0, none⟩), .pointer (some ⟨w.heap.size + 1, 0, none⟩)] (AltI (w.heap.size + 1) X (w.heap.size + 1) (w.heap.size + 2)) (fun _ => True) := by
    refine ⟨fun v W => rfl, fun done W W' h hb => ⟨h.1.below hb, h.2.1.below hb h.2.1.lt, h.2.2⟩, fun done e v W hd hI hB' _ hre => ?_⟩; exact alt1_any hXo hXc (by omega) hXB (Nat.le_trans hB hB'.size) hd hI hre
  have K0 := each_any (k := 5) (.inr rfl) hB hT (Ex.sum l) l al0 cap [] W1 (Nat.le_refl _) hlen hR1 (fun _ _ => trivial) (by simp only [List.nil_append]; omega) ⟨PV.start ho hXl, hc, Ws.nil_ok⟩ (Below.refl _ _); simp only [List.nil_append] at K0; rw [altE_part]; generalize partL 5 l = p at *; have KF := Lib.hid fun al cap W (h : RowAt (fun b => Lo (w.heap.size + 1) b ∨ w.heap.size + 1 ≤ b) W al ((gathP p).map Ex.rx)) => last_any (gathP p) al cap W (Nat.le_trans (gathP_len p) (by omega)) h; generalize foldA (canE (gathP p)) = res at *; have HG := Lib.hid (show gathP p = if setE p = Ws.nil then bareL p else bareL p ++ [.cls (setE p)] from rfl); have hbl : (bareL p).length ≤ 900000 := Nat.le_trans (List.length_filter_le _ _) hM; have K := Lib.hid K0; rw [show (((5 : Nat) : Int)) = 5 from rfl] at K; have HB1 := Lib.hid hb1; have HW1 := Lib.hid hW1; have HZ := Lib.hid fun w2 (h : Below (w.heap.size + 1) W1 w2) => (h.block _ (Nat.lt_succ_self _)).trans hz; (have hsz2 : w.heap.size < W1.heap.size := by omega); have HOK := Lib.hid (show ∀ b, Lo (w.heap.size + 1) b → ¬ X b from fun b h hb => by have := hXB b hb; have : b < w.heap.size + 1 := h; omega); have hBo : w.heap.size + 1 ≤ w.heap.size + 1 := Nat.le_refl _; clear hR hR1 hT hb1 ho hc hz hX hXB hXl K0; go_enter Tryz.func102, Tryz.ntmps102; go_wp2_with fail; rw [← HW1.out]; refine K.out.mono ?_; rintro x w2 ⟨rfl, hI, hb2⟩; obtain ⟨hP, hV, hsok⟩ := hI; obtain ⟨⟨ta, tb, tc, td⟩, ht⟩ : ∃ t, t = setE p := ⟨_, rfl⟩; rw [← ht] at hV hsok HG; obtain ⟨⟨t0, t1, t2, t3⟩, -⟩ := hV.all; have HBC := Lib.hid hb2; have HP := Lib.hid hP; have HVB := Lib.hid hV; have HSK := Lib.hid hsok; clear hP hV hsok hb2 K HW1 ht
  by_cases hn : (⟨ta, tb, tc, td⟩ : Ws) = Ws.nil
  · rw [hn, if_pos rfl] at HG; injection hn with n0 n1 n2 n3; subst n0 n1 n2 n3; have HPV : Hid (PV (w.heap.size + 1) X (Lo (w.heap.size + 1)) (w.heap.size + 1) (gathP p) w2) := Lib.hid (by rw [HG.out]; exact HP.out); have EQ := eqW_yes Ws.nil; rw [nil_v] at EQ; clear HG HP; generalize gathP p = ps at *; obtain ⟨al2, cap2, hv, hcp, hr⟩ := HPV.out.out; obtain ⟨c0, -⟩ := var_cell hv; have HZ2 := Lib.hid (HZ.out w2 HBC.out); have HB2 := Lib.hid (HB1.out.trans (HBC.out.mono (Nat.le_succ _))); have hs2 : w.heap.size < w2.heap.size := Nat.lt_of_lt_of_le hsz2 HBC.out.size; have KS := Lib.hid (KF.out al2 cap2 w2 hr); clear hv hcp hr; go_wp2_with fail; refine KS.out.mono ?_; rintro x w3 ⟨n3, al3, rfl, hb3, K3⟩; have K3 := Lib.hid K3; have hz3 := (hb3.block _ hs2).trans HZ2.out; have HZ3 := Lib.hid hz3; have HB3 := Lib.hid (HB2.out.trans (hb3.mono HB2.out.size)); have hs3 : w.heap.size < w3.heap.size := Nat.lt_of_lt_of_le hs2 hb3.size; clear hb3 hz3 c0 KS; go_wp2_with fail; refine K3.out.mono ?_; rintro x w4 ⟨n4, al4, rfl, hb4, K4⟩; have K4 := Lib.hid K4; have hz4 := (hb4.block _ hs3).trans HZ3.out; have HZ4 := Lib.hid hz4; have HB4 := Lib.hid (HB3.out.trans (hb4.mono HB3.out.size)); have hs4 : w.heap.size < w4.heap.size := Nat.lt_of_lt_of_le hs3 hb4.size; clear hb4 hz4 K3; go_wp2_with fail; refine K4.out.mono ?_; rintro x w5 ⟨v1, rfl, hv1, hb5⟩; obtain ⟨p0, p1, p2, p3, p4, pl, pn, pc, rfl⟩ := cells_re hv1; have hz5 := (hb5.block _ hs4).trans HZ4.out; have HV := Lib.hid hv1; have HZ5 := Lib.hid hz5; have HB5 := Lib.hid (HB4.out.trans (hb5.mono HB4.out.size)); obtain ⟨d0, d1, d2, d3, d4, d5, f0, f1, f2, f3, f4, f5⟩ := cellsR hz5; clear hv1 hb5 hz5 K4; go_wp2; exact ret_new HZ5.out HV.out hs4 HB5.out (Nat.le_refl _) Tryz.results102 rfl rfl
  · rw [if_neg hn] at HG; have EQ := eqW_no hn; rw [nil_v] at EQ; simp only [Ws.v] at EQ; have CE := Lib.hid (show ∀ x w3, PushPost (w.heap.size + 1) X (Lo (w.heap.size + 1)) (w.heap.size + 1) (bareL p ++ [.cls ⟨ta, tb, tc, td⟩]) w2 x w3 → CutP (w.heap.size + 1) X (w.heap.size + 1) (gathP p) W1 w3 from fun x w3 h => ⟨by rw [HG.out]; exact h.2.1, HBC.out.trans h.2.2.1⟩); have KOF := Lib.hid fun W => ofX_any ⟨ta, tb, tc, td⟩ W HSK.out; rw [ofR_some hn] at KOF; simp only [Ws.v] at KOF; clear HG; generalize gathP p = qs at *; generalize bareL p = ps at *; obtain ⟨v, xs, h1, hown, h3, h4⟩ := HP.out; obtain ⟨al, vc, rfl⟩ : ∃ al c, v = .slice al ps.length c := own_form hown; obtain ⟨i0, z0, hi0, hz0, hz1, hz2, hz3⟩ := infoR2; have hz2' := Lib.hid hz2; have HX : X (w.heap.size + 1) := hXo; have HOWN := Lib.hid hown; have H3 := Lib.hid h3; have H4 := Lib.hid h4; have hBw : w.heap.size + 1 ≤ w2.heap.size := Nat.le_trans hB HBC.out.size; have V0 := Lib.hid h1; clear hz2 hown h3 h4 h1 HP
    go_upto_region 5 with fail
    clear EQ t0 t1 t2 t3
    go_cut [2] from 11 to 17 (fun v wx => v = .pointer (some ⟨w.heap.size, 0, none⟩) ∧ CutP (w.heap.size + 1) X (w.heap.size + 1) qs W1 wx)
    case first =>
      have WB := Lib.hid fun x (hx : Below w2.heap.size w2 x) => hx; have VO := Lib.hid fun x (hx : Below w2.heap.size w2 x) => (hx.block _ (H4.out _ HX).1).trans V0.out; have CB := Lib.hid fun x (hx : Below w2.heap.size w2 x) => (HVB.out.below hx HVB.out.lt).all; refine wp_region_orderA 5 (fun i => ([SP.eq (.slice al ps.length vc), SP.eq (.agg #[.int .u64 ta, .int .u64 tb, .int .u64 tc, .int .u64 td]), SP.ex (fun b => Lo (w.heap.size + 1) b ∧ (Value.slice al ps.length vc).ownBlock ≠ some b) (.cls ⟨ta, tb, tc, td⟩), SP.eq (.int .i64 ps.length), SP.zero] : List SP).getD i SP.free) (fun _ => false) (fun _ _ _ h => by cases h) (by kernel_rfl) (by kernel_rfl) ⟨?_, ?_, ?_, ?_, ?_, trivial⟩ ?_
      · intro a x K out get hb hK; rw [if_pos (wanted_none rfl)]; have o3 : a.tmps[3]? = some (.pointer (some ⟨w.heap.size + 1, 0, none⟩)) := out 3 (by kernel_rfl); obtain ⟨c0, -⟩ := var_cell (VO.out x hb); clear out get; go_simp; exact hK _ _ rfl (Below.refl _ _) (fun h => by cases h)
      · intro a x K out get hb hK; rw [if_pos (wanted_none rfl)]; have o4 : a.tmps[4]? = some (.pointer (some ⟨w.heap.size + 1 + 1, 0, none⟩)) := out 4 (by kernel_rfl); obtain ⟨⟨c0, c1, c2, c3⟩, -⟩ := CB.out x hb; clear out get; go_simp; exact hK _ _ rfl (Below.refl _ _) (fun h => by cases h)
      · intro a x K out get hb hK; rw [if_pos (wanted_none rfl)]; obtain ⟨y12, hy12, rfl⟩ := get 1 _ _ rfl rfl (by kernel_rfl); clear out get; go_simp; refine (KOF.out x).mono ?_; rintro e w2 ⟨v2, rfl, hv2, hb2⟩; exact hK _ _ (ExV.of (leaf_any w2 hv2) fun _ _ h => h) hb2 (fun h => by cases h)
      · intro a x K out get hb hK; rw [if_pos (wanted_none rfl)]; obtain ⟨y11, hy11, rfl⟩ := get 0 _ _ rfl rfl (by kernel_rfl); clear out get; go_simp; exact hK _ _ rfl (Below.refl _ _) (fun h => by cases h)
      · intro a x K out get hb hK; rw [if_pos (wanted_none rfl)]; clear out get; go_simp; exact hK _ _ ⟨_, rfl, blk_new _ _⟩ (bel_al _ _) (fun h => by cases h)
      refine ao_finA (isD := fun s => decide (11 ≤ s) && decide (s ≤ 17)) (by kernel_rfl) ?_; intro f x hv hne hb; clear hne; have e11 : f 11 = _ := hv 0 _ _ (by decide) rfl rfl; have e14 : f 14 = _ := hv 3 _ _ (by decide) rfl rfl; obtain ⟨p0, p1, p2, p3, p4, pl, pn, pc, e13, he⟩ := hv 2 _ _ (by decide) rfl rfl; obtain ⟨gz, e15, hz⟩ := hv 4 _ _ (by decide) rfl rfl; have hbx := WB.out x hb; have hox := VO.out x hb; have HE := Lib.hid he; have hownx := ownR_below HOWN.out hbx; have hBx := Nat.le_trans hBw hbx.size; clear hv he; generalize hF : (Act.mk (List.toArray (frm f _ 0 _)) _) = fr; simp [frm] at hF; rw [e11, e14, e13, e15] at hF; subst hF; generalize f 12 = u12 at *; generalize f 16 = u16 at *; generalize f 17 = u17 at *; clear e11 e14 e13 e15 f; refine wp_end (n := 5) (by kernel_rfl) rfl rfl rfl rfl ?_; refine step_append_lies _ rfl (.tmp 11) (.tmp 15) 25 rfl (w.heap.size + 1) 27 i0 z0 6 64 Tryz.underlying25 hi0 hz0 hz1 hz2'.out hz3 (by decide) (.slice al ps.length vc) ps.length xs rfl hownx ⟨gz, 0, none⟩ 1 1 [.int .u8 0, .int .u64 0, .int .u64 0, .int .u64 0, .int .u64 0, .slice none 0 0] rfl rfl (zero_at hz) zero6_one (by decide) (by unfold maxLen; omega) (by omega) hBx _ rfl ?_; intro g' cap' w2 hown hgrow hat hlt; obtain ⟨⟨n0, n1, n2, n3, n4, n5⟩, m0, m1, m2, m3, m4, m5⟩ := new6 HOWN.out.1 hown
      have hne : ¬ w.heap.size + 1 = g' := fun e => by
        rcases hat with h | h
        · exact (H4.out _ HX).2 (by rw [h, e])
        · have := (H4.out _ HX).1; have := hbx.size; omega
      have hne' : ¬ g' = w.heap.size + 1 := fun e => hne e.symm; have hvo := (hgrow.block _ (Nat.lt_of_lt_of_le (H4.out _ HX).1 hbx.size) fun e => (H4.out _ HX).2 e.symm).trans hox; obtain ⟨v0c, v0f⟩ := var_cell hvo; (have hidx : (ps.length : Int) < (ps.length : Int) + 1 := by omega); have HOW := Lib.hid hown; have HGR := Lib.hid hgrow; have HAT := Lib.hid hat; have HBX := Lib.hid hbx; have HVO := Lib.hid hvo; clear hown hgrow hat hbx hvo hox hz hownx hBx hb; refine ⟨?_, ?_⟩
      · rw [if_pos (wanted_none rfl)]; go_simp; refine ⟨?_, ?_⟩
        · go_wp2_with fail
          go_meet
          exact ⟨rfl, CE.out _ _ (push_closeA HX HOK.out hBo hBw HOWN.out H3.out H4.out HBX.out HE.out HOW.out HGR.out HAT.out HVO.out hne)⟩
        · go_wp2_with fail
          go_meet
          exact ⟨rfl, CE.out _ _ (push_closeB HX HOK.out hBo hBw HOWN.out H3.out H4.out HBX.out HE.out HOW.out HGR.out HAT.out HVO.out hne)⟩
      · go_wp2_with fail
        go_meet
        exact ⟨rfl, CE.out _ _ (push_closeB HX HOK.out hBo hBw HOWN.out H3.out H4.out HBX.out HE.out HOW.out HGR.out HAT.out HVO.out hne)⟩
    case rest =>
      obtain ⟨rfl, hcp0⟩ := hcut; have HPV := Lib.hid hcp0.1; have HBD := Lib.hid hcp0.2; clear hcp0 HBC HVB HOWN H3 H4 V0 CE KOF; obtain ⟨al2, cap2, hv, hcp, hr⟩ := HPV.out.out; obtain ⟨c0, -⟩ := var_cell hv; have HZ2 := Lib.hid (HZ.out wc HBD.out); have HB2 := Lib.hid (HB1.out.trans (HBD.out.mono (Nat.le_succ _))); have hs2 : w.heap.size < wc.heap.size := Nat.lt_of_lt_of_le hsz2 HBD.out.size; have KS := Lib.hid (KF.out al2 cap2 wc hr); clear hv hcp hr; go_wp2_with fail; refine KS.out.mono ?_; rintro x w3 ⟨n3, al3, rfl, hb3, K3⟩; have K3 := Lib.hid K3; have hz3 := (hb3.block _ hs2).trans HZ2.out; have HZ3 := Lib.hid hz3; have HB3 := Lib.hid (HB2.out.trans (hb3.mono HB2.out.size)); have hs3 : w.heap.size < w3.heap.size := Nat.lt_of_lt_of_le hs2 hb3.size; clear hb3 hz3 c0 KS; go_wp2_with fail; refine K3.out.mono ?_; rintro x w4 ⟨n4, al4, rfl, hb4, K4⟩; have K4 := Lib.hid K4; have hz4 := (hb4.block _ hs3).trans HZ3.out; have HZ4 := Lib.hid hz4; have HB4 := Lib.hid (HB3.out.trans (hb4.mono HB3.out.size)); have hs4 : w.heap.size < w4.heap.size := Nat.lt_of_lt_of_le hs3 hb4.size; clear hb4 hz4 K3; go_wp2_with fail; refine K4.out.mono ?_; rintro x w5 ⟨v1, rfl, hv1, hb5⟩; obtain ⟨p0, p1, p2, p3, p4, pl, pn, pc, rfl⟩ := cells_re hv1; have hz5 := (hb5.block _ hs4).trans HZ4.out; have HV := Lib.hid hv1; have HZ5 := Lib.hid hz5; have HB5 := Lib.hid (HB4.out.trans (hb5.mono HB4.out.size)); obtain ⟨d0, d1, d2, d3, d4, d5, f0, f1, f2, f3, f4, f5⟩ := cellsR hz5; clear hv1 hb5 hz5 K4; go_wp2; exact ret_new HZ5.out HV.out hs4 HB5.out (Nat.le_refl _) Tryz.results102 rfl rfl
open Go.RowKit
set_option maxHeartbeats 4000000 in
set_option maxRecDepth 100000 in
theorem nstar_any (a : Ex) (ok : Nat → Prop) (v : Value) (w : World) (h : ReAt ok w v a.rx) : Calls Tryz.prog 103 #[v] w (ExPost ok (starE a) w) := by
  obtain ⟨ka, ⟨sa, sb, sc, sd⟩, ksa, hsa⟩ := rx_form a; have HA := Lib.hid h; rw [hsa] at h; obtain ⟨_, _, al, cap, rfl, hcap, _, hrow⟩ := h; simp only at HA ⊢; have k1a := kind_emp hsa; have k2a := kind_eps hsa; have k6a := kind_star hsa; have KB := Lib.hid fun W => then_any (ok := fun _ => True) [] none 0 W (by decide) (.inl rfl); rw [show foldR 4 2 [] = Ex.eps.rx from rfl, show ([] : List Rx).length = 0 from rfl] at KB; have B := Lib.hid (Bn1.new w (.cells #[.int .u8 ka, .int .u64 sa, .int .u64 sb, .int .u64 sc, .int .u64 sd, .slice al ksa.length cap] 27))
  cases q1 : a.isEmp with
  | true =>
    rw [q1] at k1a; rw [starE_bare (.inl q1)]; clear q1 hrow hsa k2a k6a HA; go_enter Tryz.func103, Tryz.ntmps103; go_wp2_with fail; refine (KB.out _).mono ?_; rintro e w1 ⟨v1, rfl, hv1, hb1⟩; obtain ⟨p0, p1, p2, p3, p4, pl, pn, pc, rfl⟩ := cells_re hv1; have B1 := Lib.hid (B.out.go hb1); have HV := Lib.hid (leaf_any (ok' := okN ok w.heap.size) w1 hv1); clear hv1 hb1 B; obtain ⟨c0, c1, c2, c3, c4, c5, f0, f1, f2, f3, f4, f5⟩ := cellsR B1.out.2.1; go_wp2; exact ret_ex (e := .eps) B1.out.2.1 HV.out B1.out.2.2 (by omega) Tryz.results103 rfl rfl
  | false =>
  rw [q1] at k1a
  cases q2 : a.isEps with
  | true =>
    rw [q2] at k2a; rw [starE_bare (.inr q2)]; clear q1 q2 hrow hsa k6a HA; go_enter Tryz.func103, Tryz.ntmps103; go_wp2_with fail; refine (KB.out _).mono ?_; rintro e w1 ⟨v1, rfl, hv1, hb1⟩; obtain ⟨p0, p1, p2, p3, p4, pl, pn, pc, rfl⟩ := cells_re hv1; have B1 := Lib.hid (B.out.go hb1); have HV := Lib.hid (leaf_any (ok' := okN ok w.heap.size) w1 hv1); clear hv1 hb1 B; obtain ⟨c0, c1, c2, c3, c4, c5, f0, f1, f2, f3, f4, f5⟩ := cellsR B1.out.2.1; go_wp2; exact ret_ex (e := .eps) B1.out.2.1 HV.out B1.out.2.2 (by omega) Tryz.results103 rfl rfl
  | false =>
  rw [q2] at k2a
  cases q3 : a.isStar with
  | true =>
    rw [q3] at k6a; rw [starE_star q3]; clear q1 q2 q3 hrow hsa KB; go_enter Tryz.func103, Tryz.ntmps103; go_wp2; exact ret_re (blk_at _ _ (by simp)) Tryz.results103 rfl rfl ⟨_, rfl, (HA.out.below (al2 w _ _)).imp fun _ _ h => Or.inl h, al2 w _ _⟩
  | false =>
    rw [q3] at k6a; rw [starE_plain q1 q2 q3]; have KM := Lib.hid fun W (hb : Below w.heap.size w W) => manyX_any a.rx _ W (HA.out.below hb); clear q1 q2 q3 hrow hsa KB HA; go_enter Tryz.func103, Tryz.ntmps103; go_wp2_with fail; refine (KM.out _ B.out.2.2).mono ?_; rintro e w1 ⟨v1, rfl, hv1, hb1⟩; obtain ⟨p0, p1, p2, p3, p4, pl, pn, pc, rfl⟩ := cells_re hv1; have B1 := Lib.hid (B.out.go hb1); have HV := Lib.hid (show ReAt (okN ok w.heap.size) w1 (.agg #[.int .u8 p0, .int .u64 p1, .int .u64 p2, .int .u64 p3, .int .u64 p4, .slice pl pn pc]) (Ex.star a).rx from hv1.imp fun b _ h => .inr (Nat.le_trans B.out.2.2.size h)); clear hv1 hb1 B; obtain ⟨c0, c1, c2, c3, c4, c5, f0, f1, f2, f3, f4, f5⟩ := cellsR B1.out.2.1; go_wp2; exact ret_ex (e := .star a) B1.out.2.1 HV.out B1.out.2.2 (by omega) Tryz.results103 rfl rfl
theorem sum_part (k : Nat) : ∀ e : Ex, Ex.sum (partE k e) ≤ e.size
  | .empty => by simp [partE, Ex.sum, Ex.size]
  | .eps => by simp [partE, Ex.sum, Ex.size]
  | .cls s => by simp [partE, Ex.sum, Ex.size]
  | .star a => by simp [partE, Ex.sum]
  | .seq a b => by
    have h1 := sum_part k a; have h2 := sum_part k b; unfold partE
    split
    · simp only [Ex.sum, List.map_append, List.sum_append, Ex.size] at *; omega
    · simp [Ex.sum]
  | .alt a b => by
    have h1 := sum_part k a; have h2 := sum_part k b; unfold partE
    split
    · simp only [Ex.sum, List.map_append, List.sum_append, Ex.size] at *; omega
    · simp [Ex.sum]
theorem sum_parts (k : Nat) (l : List Ex) : Ex.sum (partL k l) ≤ Ex.sum l := by
  induction l with
  | nil => simp [partL, Ex.sum]
  | cons e l ih =>
    have h := sum_part k e; simp only [partL, List.flatMap_cons, Ex.sum, List.map_append, List.sum_append, List.map_cons, List.sum_cons] at *; omega
theorem sum_nf (l : List Ex) : Ex.sum (l.map nfE) ≤ Ex.sum l := by
  induction l with
  | nil => simp [Ex.sum]
  | cons e l ih =>
    have h := nf_size e; simp only [Ex.sum, List.map_cons, List.sum_cons] at *; omega
theorem parts_len (k : Nat) (l : List Ex) : (partL k l).length ≤ Ex.sum l := by
  induction l with
  | nil => simp [partL]
  | cons e l ih =>
    have h := part_len k e; simp only [partL, List.flatMap_cons, List.length_append, Ex.sum, List.map_cons, List.sum_cons] at *; omega
theorem whole_len (k : Nat) (l : List Ex) : (partL k ((partL k l).map nfE)).length ≤ Ex.sum l :=
  Nat.le_trans (parts_len k _) (Nat.le_trans (sum_nf _) (sum_parts k l))
theorem leaf_nf {e : Ex} {k : Nat} {s : Ws} {ks : List Rx} (h : e.rx = .node k s ks) (h4 : e.isSeq = false) (h5 : e.isAlt = false) (h6 : e.isStar = false) : (nfE e).rx = .node k s [] := by
  cases e with
  | empty => rw [← show ks = [] from by simp only [Ex.rx] at h; injection h with _ _ h3; exact h3.symm, ← h]; rfl
  | eps => rw [← show ks = [] from by simp only [Ex.rx] at h; injection h with _ _ h3; exact h3.symm, ← h]; rfl
  | cls s => rw [← show ks = [] from by simp only [Ex.rx] at h; injection h with _ _ h3; exact h3.symm, ← h]; rfl
  | seq a b => cases h4
  | alt a b => cases h5
  | star a => cases h6
set_option maxHeartbeats 4000000 in
set_option maxRecDepth 100000 in
theorem normal_leaf {e : Ex} (h4 : e.isSeq = false) (h5 : e.isAlt = false) (h6 : e.isStar = false) {ok : Nat → Prop} (v : Value) (w : World) (h : ReAt ok w v e.rx) : Calls Tryz.prog 78 #[v] w (NewPost (nfE e).rx w) := by
  obtain ⟨ka, ⟨sa, sb, sc, sd⟩, ksa, hsa⟩ := rx_form e; rw [hsa] at h; obtain ⟨hk256, hsok, al, cap, rfl, hcap, _, hrow⟩ := h; simp only; rw [leaf_nf hsa h4 h5 h6]; have k4a := kind_seq hsa; have k5a := kind_alt hsa; have k6a := kind_star hsa; rw [h4] at k4a; rw [h5] at k5a; rw [h6] at k6a; have HS := Lib.hid hsok; clear hrow hcap hsa h4 h5 h6 hsok; go_enter Tryz.func78, Tryz.ntmps78; go_wp2; exact ret_re (blk_at _ _ (by simp)) Tryz.results78 rfl rfl ⟨_, rfl, bareAt _ _ ka ⟨sa, sb, sc, sd⟩ hk256 HS.out, al2 w _ _⟩
set_option maxHeartbeats 8000000 in
set_option maxRecDepth 100000 in
theorem normal_step {N : Nat} (hN : N < 800000) (ih : NrmC N) : NrmC (N + 1) := by
  intro e hs hw ok v w h; have h0 := h; obtain ⟨ka, ⟨sa, sb, sc, sd⟩, ksa, hsa⟩ := rx_form e; rw [hsa] at h; obtain ⟨hk256, hsok, al, cap, rfl, hcap, _, hrow⟩ := h; simp only at h0 ⊢; have B := Lib.hid (Bn1.new w (.cells #[.int .u8 ka, .int .u64 sa, .int .u64 sb, .int .u64 sc, .int .u64 sd, .slice al ksa.length cap] 27)); have IH := Lib.hid ih; clear ih; have k4a := kind_seq hsa; have k5a := kind_alt hsa; have k6a := kind_star hsa
  cases e with
  | seq a b =>
    simp only [Ex.rx] at hsa; injection hsa with e1 e2 e3; subst e1; subst e3; simp only [Ex.size] at hs; (have hsum : Ex.sum [a, b] < 900000 := by simp [Ex.sum]; omega); obtain ⟨L, hL⟩ : ∃ L, L = (partL 4 [a, b]).map nfE := ⟨_, rfl⟩; have hwl := Nat.lt_of_le_of_lt (whole_len 4 [a, b]) hsum; have hpl := Nat.lt_of_le_of_lt (parts_len 4 [a, b]) hsum
    have KN := Lib.hid fun W (hb : Below w.heap.size w W) => normals_any (k := 4) IH.out (.inl rfl) ok [a, b] al cap W (fun x hx => by
      simp at hx
      rcases hx with rfl | rfl
      · exact ⟨by omega, hw.1⟩
      · exact ⟨by omega, hw.2⟩) (by simp) (by omega) (hrow.below hb)
    have KS := Lib.hid fun ok al cap W (h : RowAt ok W al (L.map Ex.rx)) => nmSeq_any ok L al cap W (by have := parts_len 4 [a, b]; rw [hL, List.length_map]; omega) (by rw [hL]; omega) h; rw [← hL] at KN; have hnode := seq_node a b; rw [← hL] at hnode; rw [hnode] at KS; rw [show ([a, b] : List Ex).length = 2 from rfl, show (((4 : Nat) : Int)) = 4 from rfl] at KN; rw [show ([a.rx, b.rx] : List Rx).length = 2 from rfl, show (((4 : Nat) : Int)) = 4 from rfl] at B ⊢; generalize nfE (.seq a b) = res at *; clear h0 hL hnode hwl hpl hsum k4a k5a k6a hw hrow hcap hsok e2 IH hk256; go_enter Tryz.func78, Tryz.ntmps78; go_wp2_with fail; refine (KN.out _ B.out.2.2).mono ?_; rintro x w1 ⟨al2, cap2, rfl, hcp, hr, hb1⟩; have B1 := Lib.hid (B.out.go hb1); have KS1 := Lib.hid (KS.out _ al2 cap2 w1 hr); clear hcp hr hb1 B KN KS; go_wp2_with fail; refine KS1.out.mono ?_; rintro x w2 ⟨v1, rfl, hv1, hb2⟩; obtain ⟨p0, p1, p2, p3, p4, pl, pn, pc, rfl⟩ := cells_re hv1; have B2 := Lib.hid (B1.out.go hb2); have HV := Lib.hid hv1; have hlt := (Array.getElem?_eq_some_iff.1 B1.out.2.1).1; clear hv1 hb2 KS1 B1; obtain ⟨c0, c1, c2, c3, c4, c5, f0, f1, f2, f3, f4, f5⟩ := cellsR B2.out.2.1; go_wp2; exact ret_new B2.out.2.1 HV.out hlt B2.out.2.2 (by omega) Tryz.results78 rfl rfl
  | alt a b =>
    simp only [Ex.rx] at hsa; injection hsa with e1 e2 e3; subst e1; subst e3; simp only [Ex.size] at hs; (have hsum : Ex.sum [a, b] < 900000 := by simp [Ex.sum]; omega); obtain ⟨L, hL⟩ : ∃ L, L = (partL 5 [a, b]).map nfE := ⟨_, rfl⟩; have hwl := Nat.lt_of_le_of_lt (whole_len 5 [a, b]) hsum; have hpl := Nat.lt_of_le_of_lt (parts_len 5 [a, b]) hsum
    have KN := Lib.hid fun W (hb : Below w.heap.size w W) => normals_any (k := 5) IH.out (.inr rfl) ok [a, b] al cap W (fun x hx => by
      simp at hx
      rcases hx with rfl | rfl
      · exact ⟨by omega, hw.1⟩
      · exact ⟨by omega, hw.2⟩) (by simp) (by omega) (hrow.below hb)
    have KS := Lib.hid fun ok al cap W (h : RowAt ok W al (L.map Ex.rx)) => nmAlt_any ok L al cap W (by have := parts_len 5 [a, b]; rw [hL, List.length_map]; omega) (by rw [hL]; omega) h; rw [← hL] at KN; have hnode := alt_node hw; rw [← hL] at hnode; rw [hnode] at KS; rw [show ([a, b] : List Ex).length = 2 from rfl, show (((5 : Nat) : Int)) = 5 from rfl] at KN; rw [show ([a.rx, b.rx] : List Rx).length = 2 from rfl, show (((5 : Nat) : Int)) = 5 from rfl] at B ⊢; generalize nfE (.alt a b) = res at *; clear h0 hL hnode hwl hpl hsum k4a k5a k6a hw hrow hcap hsok e2 IH hk256; go_enter Tryz.func78, Tryz.ntmps78; go_wp2_with fail; refine (KN.out _ B.out.2.2).mono ?_; rintro x w1 ⟨al2, cap2, rfl, hcp, hr, hb1⟩; have B1 := Lib.hid (B.out.go hb1); have KS1 := Lib.hid (KS.out _ al2 cap2 w1 hr); clear hcp hr hb1 B KN KS; go_wp2_with fail; refine KS1.out.mono ?_; rintro x w2 ⟨v1, rfl, hv1, hb2⟩; obtain ⟨p0, p1, p2, p3, p4, pl, pn, pc, rfl⟩ := cells_re hv1; have B2 := Lib.hid (B1.out.go hb2); have HV := Lib.hid hv1; have hlt := (Array.getElem?_eq_some_iff.1 B1.out.2.1).1; clear hv1 hb2 KS1 B1; obtain ⟨c0, c1, c2, c3, c4, c5, f0, f1, f2, f3, f4, f5⟩ := cellsR B2.out.2.1; go_wp2; exact ret_new B2.out.2.1 HV.out hlt B2.out.2.2 (by omega) Tryz.results78 rfl rfl
  | star a =>
    simp only [Ex.rx] at hsa; injection hsa with e1 e2 e3; subst e1; subst e3; simp only [Ex.size] at hs; obtain ⟨bk, off, rfl, hlt0, hn0⟩ := hrow.kid (i := 0) (by simp); simp only [List.getElem_cons_zero, Nat.zero_mul, Nat.add_zero] at hn0; obtain ⟨kc, ⟨ca, cb, cc, cd⟩, ksc, hsc⟩ := rx_form a; rw [hsc] at hn0; obtain ⟨al0, cap0, i6, hrc⟩ := hn0.read; simp only at i6 hrc; rw [← hsc] at hrc; have I6 := Lib.hid i6; have KN := Lib.hid fun W (hb : Below w.heap.size w W) => IH.out a (by omega) hw ok _ W (hrc.below hb); have KS := Lib.hid fun ok v W (h : ReAt ok W v (nfE a).rx) => nstar_any (nfE a) ok v W h; rw [show nfE (.star a) = starE (nfE a) from rfl]; generalize starE (nfE a) = res at *; generalize nfE a = na at *; rw [show ([a.rx] : List Rx).length = 1 from rfl, show (((6 : Nat) : Int)) = 6 from rfl] at B ⊢; (have hcap1 : 1 ≤ cap := by simpa using hcap); obtain ⟨c0, c1, c2, c3, c4, c5⟩ := six_keep hlt0 I6.out B.out.2.2; clear h0 k4a k5a k6a hw hrow hcap hsok e2 IH hk256 hrc hsc hn0 i6; go_enter Tryz.func78, Tryz.ntmps78; go_wp2_with fail; refine (KN.out _ B.out.2.2).mono ?_; rintro x w1 ⟨v1, rfl, hv1, hb1⟩; have B1 := Lib.hid (B.out.go hb1); have KS1 := Lib.hid (KS.out _ v1 w1 hv1); have hs1 := hb1.size; clear hv1 hb1 KN KS c0 c1 c2 c3 c4 c5; go_wp2_with fail; refine KS1.out.mono ?_; rintro x w2 ⟨v2, rfl, hv2, hb2⟩; obtain ⟨p0, p1, p2, p3, p4, pl, pn, pc, rfl⟩ := cells_re hv2; have B2 := Lib.hid (B1.out.go hb2)
    have HV := Lib.hid (hv2.imp (ok' := New (w.heap.size + 2)) fun b _ h => by
      unfold New at *
      rcases h with h | h
      · simpa using h
      · simp at hs1; omega)
    clear hv2 hb2 KS1 B1 B hs1; obtain ⟨c0, c1, c2, c3, c4, c5, f0, f1, f2, f3, f4, f5⟩ := cellsR B2.out.2.1; go_wp2; exact ret_new B2.out.2.1 HV.out (by omega) B2.out.2.2 (by omega) Tryz.results78 rfl rfl
  | empty => exact normal_leaf rfl rfl rfl _ w h0
  | eps => exact normal_leaf rfl rfl rfl _ w h0
  | cls s => exact normal_leaf rfl rfl rfl _ w h0
theorem normal_all : ∀ N, N ≤ 800000 → NrmC N
  | 0, _ => fun e h => absurd h (by have := e.size_pos; omega)
  | N + 1, h => normal_step (by omega) (normal_all N (by omega))
theorem normal_any {e : Ex} (hs : e.size ≤ 800000) (hw : e.Wf) {ok : Nat → Prop} (v : Value) (w : World) (h : ReAt ok w v e.rx) : Calls Tryz.prog 78 #[v] w (NewPost (nfE e).rx w) :=
  normal_all 800000 (Nat.le_refl _) e hs hw ok v w h
open Go.RowKit
theorem normX_no {r : Rx} (h : mayR r = false) : normX r = .node 0 Ws.nil [] := by unfold normX; rw [exX_no h]; rfl
theorem normX_of {e : Ex} (we : e.Wf) (hs : e.size ≤ 2000) : normX e.rx = (nfE e).rx := by unfold normX; rw [exX_of we hs]; rfl
set_option maxHeartbeats 2000000 in
set_option maxRecDepth 100000 in
theorem normL_any {ok : Nat → Prop} (r : Rx) (v : Value) (w : World) (h : ReAt ok w v r) :
    Calls Tryz.prog 56 #[v] w (NewPost (normX r) w) := by
  obtain ⟨x0, x1, x2, x3, x4, xl, xn, xc, rfl⟩ := cells_re h; have B := Lib.hid (Bn1.new w (.cells #[.int .u8 x0, .int .u64 x1, .int .u64 x2, .int .u64 x3, .int .u64 x4, .slice xl xn xc] 27)); have HB2 := Lib.hid (al2 w (.cells #[.int .u8 x0, .int .u64 x1, .int .u64 x2, .int .u64 x3, .int .u64 x4, .slice xl xn xc] 27) zR); have hr := row_new (h.below HB2.out); (have hsz : ((w.alloc (.cells #[.int .u8 x0, .int .u64 x1, .int .u64 x2, .int .u64 x3, .int .u64 x4, .slice xl xn xc] 27)).alloc zR).heap.size = w.heap.size + 2 := by simp); rw [hsz] at hr; have HR := Lib.hid hr; have KM := Lib.hid fun (al : Option Addr) (W : World) (h : RowAt (fun _ => True) W al [r]) => mayX [r] al 1 W (by simp) h; rw [show [r].length = 1 from rfl, show [r].all mayR = mayR r from by simp] at KM; have B3 := Lib.hid (B.out.go ((Below.refl _ _).alloc (Nat.le_refl _) (.cells #[.int .u8 x0, .int .u64 x1, .int .u64 x2, .int .u64 x3, .int .u64 x4, .slice xl xn xc] 27)))
  cases hm : mayR r with
  | false =>
    rw [normX_no hm]; rw [hm] at KM; clear hm h hr hsz B HB2; go_enter Tryz.func56, Tryz.ntmps56; go_wp2_with fail; refine (KM.out _ _ HR.out).mono ?_; rintro e w1 ⟨rfl, hb1⟩; have B1 := Lib.hid (B3.out.go hb1); clear hb1 B3 KM HR; obtain ⟨c0, c1, c2, c3, c4, c5, f0, f1, f2, f3, f4, f5⟩ := cellsR B1.out.2.1; go_wp2; exact ret_re (putR B1.out.2.1 _ _ _ _ _ _) Tryz.results56 rfl rfl ⟨_, rfl, bareAt _ _ 0 Ws.nil (by decide) Ws.nil_ok, putB B1.out.2.2 (by omega) _ _ _ _ _ _⟩
  | true =>
    obtain ⟨e0, he0, we, hs⟩ := may_ex h hm; rw [show normX r = (nfE e0).rx from by rw [← he0]; exact normX_of we hs]; rw [hm] at KM; have KN := Lib.hid fun W (hb : Below w.heap.size w W) => normal_any (e := e0) (by omega) we (.agg #[.int .u8 x0, .int .u64 x1, .int .u64 x2, .int .u64 x3, .int .u64 x4, .slice xl xn xc]) W (by rw [he0]; exact h.below hb); clear hm h he0 hr hsz B HB2; go_enter Tryz.func56, Tryz.ntmps56; go_wp2_with fail; refine (KM.out _ _ HR.out).mono ?_; rintro e w1 ⟨rfl, hb1⟩; have B1 := Lib.hid (B3.out.go hb1); clear hb1 B3 KM HR; obtain ⟨c0, c1, c2, c3, c4, c5, -⟩ := cellsR B1.out.1; go_wp2_with fail; refine (KN.out _ B1.out.2.2).mono ?_; rintro e w2 ⟨v2, rfl, hv2, hb2⟩; obtain ⟨q0, q1, q2, q3, q4, ql, qn, qc, rfl⟩ := cells_re hv2; have B2 := Lib.hid (B1.out.go hb2); have HV := Lib.hid hv2; have hlt := (Array.getElem?_eq_some_iff.1 B1.out.2.1).1; clear hv2 hb2 B1 c0 c1 c2 c3 c4 c5; obtain ⟨c0, c1, c2, c3, c4, c5, f0, f1, f2, f3, f4, f5⟩ := cellsR B2.out.2.1; go_wp2; exact ret_new B2.out.2.1 HV.out hlt B2.out.2.2 (by omega) Tryz.results56 rfl rfl
open Go.RowKit
def TwV (ok : Nat → Prop) (p : Rx × Nat) (x : Value) (w : World) : Prop := ∃ (p0 p1 p2 p3 p4 : Int) (pl : Option Addr) (pn pc : Nat), x = .tuple #[.agg #[.int .u8 p0, .int .u64 p1, .int .u64 p2, .int .u64 p3, .int .u64 p4, .slice pl pn pc], .int .i64 p.2] ∧ ReAt ok w (.agg #[.int .u8 p0, .int .u64 p1, .int .u64 p2, .int .u64 p3, .int .u64 p4, .slice pl pn pc]) p.1
theorem TwV.of {ok ok' : Nat → Prop} {w : World} {v : Value} {p : Rx × Nat} (h : ReAt ok w v p.1) (hi : ∀ b, b < w.heap.size → ok b → ok' b) : TwV ok' p (.tuple #[v, .int .i64 p.2]) w := by
  obtain ⟨p0, p1, p2, p3, p4, pl, pn, pc, rfl⟩ := cells_re h; exact ⟨p0, p1, p2, p3, p4, pl, pn, pc, rfl, h.imp hi⟩
def SP.tw (ok : Nat → Prop) (p : Rx × Nat) : SP := ⟨TwV ok p, fun _ _ _ ⟨p0, p1, p2, p3, p4, pl, pn, pc, h1, h2⟩ hb => ⟨p0, p1, p2, p3, p4, pl, pn, pc, h1, h2.below hb⟩⟩
def RxW (ok : Nat → Prop) (r : Rx) (x : Value) (w : World) : Prop := ∃ (p0 p1 p2 p3 p4 : Int) (pl : Option Addr) (pn pc : Nat), x = .agg #[.int .u8 p0, .int .u64 p1, .int .u64 p2, .int .u64 p3, .int .u64 p4, .slice pl pn pc] ∧ ReAt ok w (.agg #[.int .u8 p0, .int .u64 p1, .int .u64 p2, .int .u64 p3, .int .u64 p4, .slice pl pn pc]) r
def SP.rw9 (ok : Nat → Prop) (r : Rx) : SP := ⟨RxW ok r, fun _ _ _ ⟨p0, p1, p2, p3, p4, pl, pn, pc, h1, h2⟩ hb => ⟨p0, p1, p2, p3, p4, pl, pn, pc, h1, h2.below hb⟩⟩
structure Telling (B o fn : Nat) (cs : Array Value) (I : (Nat → Prop) → Value → List Ex → World → Prop) : Prop where
  enter : ∀ v w, Sem.run Tryz.prog (callFunc fn (#[v] ++ cs)) w = .ok (.enter fn (#[v] ++ cs)) w
  own : ∀ X v done w, I X v done w → (∀ c, X c → c < w.heap.size) ∧ (∀ g, v.ownBlock = some g → B ≤ g ∧ g < w.heap.size ∧ ¬ X g) ∧ B ≤ w.heap.size ∧ X o ∧ B ≤ o
  keep : ∀ X v done w w', I X v done w → Below w.heap.size w w' → I X v done w'
  more : ∀ X v done w w' c, I X v done w → Below w.heap.size w w' → w.heap.size ≤ c → c < w'.heap.size → I (fun b => X b ∨ b = c) v done w'
  other : ∀ X v done w w' c, I X v done w → X c → c ≠ o → w.heap.size ≤ w'.heap.size → (∀ b, b ≠ c → b < w.heap.size → w'.heap[b]? = w.heap[b]?) → I X v done w'
  step : ∀ X v done (e : Ex) x w, I X v done w → done.length < 1000000 → ReAt (fun b => B ≤ b ∧ ¬ X b ∧ v.ownBlock ≠ some b) w x e.rx → Calls Tryz.prog fn (#[x] ++ cs) w fun z w' => z = .returned (.tuple #[]) ∧ (∃ v', I X v' (done ++ [e]) w') ∧ Below B w w' ∧ ∀ b, b < w.heap.size → b ≠ o → v.ownBlock ≠ some b → w'.heap[b]? = w.heap[b]?
theorem wlk_snoc (s : List UInt8) (c : UInt8) : ∀ {x y : Ex} {l : List Ex}, wlkE x s = some l → wrdE x s = some y → wlkE x (s ++ [c]) = (stpE c y).map fun z => l ++ [z] := by
  induction s with
  | nil =>
    intro x y l h1 h2; injection h1 with h1; injection h2 with h2; subst h1 h2; simp only [List.nil_append, wlkE]
    cases stpE c x <;> rfl
  | cons d s ih =>
    intro x y l h1 h2; simp only [wlkE, wrdE, List.cons_append] at h1 h2 ⊢
    cases hd : stpE d x with
    | none => rw [hd] at h1; cases h1
    | some z =>
      rw [hd] at h1 h2; simp only at h1 h2 ⊢
      cases hw : wlkE z s with
      | none => rw [hw] at h1; cases h1
      | some m =>
        rw [hw] at h1; injection h1 with h1; subst h1; rw [ih hw h2]
        cases stpE c y <;> rfl
theorem wlk_dead {x y : Ex} {s t : List UInt8} {c : UInt8} (h : wrdE x s = some y) (hc : stpE c y = none) : wlkE x (s ++ c :: t) = none := by
  rw [wlk_none, wrd_append, h]; simp only [Option.bind_some, wrdE, hc]
theorem take_byte (s : ByteArray) (i : Nat) (h : i < s.size) : s.data.toList.take (i + 1) = s.data.toList.take i ++ [s[i]] := by
  (have h' : i < s.data.toList.length := by rw [Array.length_toList]; exact h); rw [List.take_succ_eq_append_getElem h']
  rfl
theorem cut_byte (s : ByteArray) (i : Nat) (h : i < s.size) : s.data.toList = s.data.toList.take i ++ s[i] :: s.data.toList.drop (i + 1) := by
  (have h' : i < s.data.toList.length := by rw [Array.length_toList]; exact h); have := List.take_append_drop (i + 1) s.data.toList; rw [take_byte s i h, List.append_assoc] at this; exact this.symm
def Told (x0 : Ex) (s : List UInt8) (done : List Ex) (n : Nat) : Prop := (n = 0 ∧ wlkE x0 s = some done) ∨ (n = 4 ∧ wlkE x0 s = none)
def EchPost (B : Nat) (I : (Nat → Prop) → Value → List Ex → World → Prop) (q : List Ex → Nat → Prop) (w : World) (e : Ending) (w' : World) : Prop := ∃ (X : Nat → Prop) (v : Value) (done : List Ex) (n : Nat), e = .returned (.int .i64 n) ∧ I X v done w' ∧ Below B w w' ∧ q done n
def echInv (B gl : Nat) (x0 : Ex) (s : ByteArray) (X : Nat → Prop) (I : (Nat → Prop) → Value → List Ex → World → Prop) (w : World) (y : Value) (wr : World) : Prop := ∃ (i : Nat) (done : List Ex) (cur : Ex) (v : Value) (l0 l1 l2 l3 l4 : Int) (ll : Option Addr) (ln lc : Nat), i ≤ s.size ∧ y = .int .i64 i ∧ I X v done wr ∧ wlkE x0 (s.data.toList.take i) = some done ∧ wrdE x0 (s.data.toList.take i) = some cur ∧ done.length = i + 1 ∧ wr.heap[gl]? = some (.cells #[.int .u8 l0, .int .u64 l1, .int .u64 l2, .int .u64 l3, .int .u64 l4, .slice ll ln lc] 27) ∧ ReAt (fun _ => True) wr (.agg #[.int .u8 l0, .int .u64 l1, .int .u64 l2, .int .u64 l3, .int .u64 l4, .slice ll ln lc]) cur.rx ∧ Below B w wr
theorem lim_two (c : UInt8) (x : Ex) : (∃ y, stpE c x = some y ∧ y = nfE (derE c x) ∧ limX c x = ((derE c x).rx, 0) ∧ (derE c x).size ≤ 2000) ∨ (stpE c x = none ∧ limX c x = (zeroX, 4)) := by
  unfold stpE limX
  by_cases h : (derE c x).size ≤ 2000
  · rw [if_pos h, if_pos h]; exact .inl ⟨_, rfl, rfl, rfl, h⟩
  · rw [if_neg h, if_neg h]; exact .inr ⟨rfl, rfl⟩
def echPsi (rn : Nat) (i : Nat) (x : Value) : Prop := match i with
  | 5 => ∃ y, x = .tuple #[y, .int .i64 rn]
  | 7 => x = .int .i64 rn
  | 10 => x = .int .i64 rn
  | _ => True
def echG (B : Nat) (rr : Rx) (v : Value) (w : World) : Prop := ∃ (g : Nat) (p0 p1 p2 p3 p4 : Int) (pl : Option Addr) (pn pc : Nat), v = .pointer (some ⟨g, 0, none⟩) ∧ B ≤ g ∧ w.heap[g]? = some (.cells #[.int .u8 p0, .int .u64 p1, .int .u64 p2, .int .u64 p3, .int .u64 p4, .slice pl pn pc] 27) ∧ ∀ e : Ex, rr = e.rx → ReAt (fun _ => True) w (.agg #[.int .u8 p0, .int .u64 p1, .int .u64 p2, .int .u64 p3, .int .u64 p4, .slice pl pn pc]) rr
set_option maxRecDepth 100000 in
set_option maxHeartbeats 8000000 in
theorem ech_loop {B o fn : Nat} {cs : Array Value} {I : (Nat → Prop) → Value → List Ex → World → Prop} (hT : Telling B o fn cs I) (r : Rx) (s : ByteArray) (e0 : Ex) (he : e0.rx = r) (we : e0.Wf) (hs : e0.size ≤ 2000) (hz : s.size ≤ 100000) {X : Nat → Prop} {v : Value} {ok : Nat → Prop} (vr : Value) (w : World) (hI : I X v [] w) (h : ReAt ok w vr r) :
    Calls Tryz.prog 32 #[vr, .string s, .func (.func fn) #[] cs] w (EchPost B I (Told (nfE e0) s.data.toList) w) := by
  obtain ⟨x0, x1, x2, x3, x4, xl, xn, xc, rfl⟩ := cells_re h; have HT := Lib.hid hT; (have hm : mayR r = true := by rw [← he, mayE we]; simpa using hs); have hBw := (hT.own _ _ _ _ hI).2.2.1; have x0s : (nfE e0).size ≤ 2000 := Nat.le_trans (nf_size e0) hs; have x0w := nf_wf e0 we; have x0n := nf_again e0 we; (have hnx : normX r = (nfE e0).rx := by rw [← he]; exact normX_of we hs); have hb0 := bel_al w (.cells #[.int .u8 x0, .int .u64 x1, .int .u64 x2, .int .u64 x3, .int .u64 x4, .slice xl xn xc] 27); have X0 := Lib.hid (blk_new w (.cells #[.int .u8 x0, .int .u64 x1, .int .u64 x2, .int .u64 x3, .int .u64 x4, .slice xl xn xc] 27)); have KM := Lib.hid fun g W (h : RowAt (fun _ => True) W (some ⟨g, 0, none⟩) [r]) => may_one r g W h; rw [hm] at KM; have KN := Lib.hid fun W (hb : Below w.heap.size w W) => normL_any r _ W (h.below hb); rw [hnx] at KN; have HB0 := Lib.hid hb0; have K1 := Lib.hid (KM.out (w.heap.size + 1) ((w.alloc (.cells #[.int .u8 x0, .int .u64 x1, .int .u64 x2, .int .u64 x3, .int .u64 x4, .slice xl xn xc] 27)).alloc (.cells #[.int .u8 x0, .int .u64 x1, .int .u64 x2, .int .u64 x3, .int .u64 x4, .slice xl xn xc] 27)) (row_one (blk_at _ _ (by simp)) trivial (((h.below hb0).below (bel_al _ _)).imp fun _ _ _ => trivial))); generalize nfE e0 = z0 at *; have HI := Lib.hid hI; have HBW := Lib.hid hBw; clear hT hm hnx hb0 h he we hs KM hI hBw; go_enter Tryz.func32, Tryz.ntmps32; go_wp2_with fail; refine K1.out.mono ?_; rintro x w1 ⟨rfl, hb1⟩; have H1 := Lib.hid (HB0.out.trans ((bel_al _ _).trans (hb1.mono (by simp)) |>.mono (by simp))); obtain ⟨c0, c1, c2, c3, c4, c5, -⟩ := cellsR ((hb1.block _ (by simp; omega)).trans ((Below.heap_alloc _ (.cells #[.int .u8 x0, .int .u64 x1, .int .u64 x2, .int .u64 x3, .int .u64 x4, .slice xl xn xc] 27) _ (by simp)).trans X0.out)); have K2 := Lib.hid (KN.out w1 H1.out); clear hb1 K1 KN X0 HB0; go_wp2_with fail; refine K2.out.mono ?_; rintro x w2 ⟨v2, rfl, hv2, hb2⟩; obtain ⟨q0, q1, q2, q3, q4, ql, qn, qc, rfl⟩ := cells_re hv2; have H2 := Lib.hid (H1.out.trans (hb2.mono H1.out.size)); have HV := Lib.hid hv2; clear hv2 hb2 K2 c0 c1 c2 c3 c4 c5; go_wp2_with fail; obtain ⟨V, hV⟩ : ∃ V, V = w2.alloc (.cells #[.int .u8 q0, .int .u64 q1, .int .u64 q2, .int .u64 q3, .int .u64 q4, .slice ql qn qc] 27) := ⟨_, rfl⟩; obtain ⟨gl, hgl⟩ : ∃ g, g = w2.heap.size := ⟨_, rfl⟩; rw [← hV, ← hgl]; obtain ⟨o1, o2, o3, o4, o5⟩ := HT.out.own _ _ _ _ HI.out; have hs1 := H1.out.size; have hs2 := H2.out.size; (have hlo : gl < V.heap.size := by rw [hV, hgl]; simp); (have hgb : B ≤ gl := by omega); have HO4 := Lib.hid o4; (have hgo : gl ≠ o := fun e => by have := o1 o o4; omega); have hI2 := HT.out.keep _ _ _ _ _ HI.out H2.out; have IV := HT.out.more _ _ _ _ V gl hI2 (by rw [hV]; exact bel_al _ _) (by rw [hgl]; exact Nat.le_refl _) hlo; (have XV : V.heap[gl]? = some (.cells #[.int .u8 q0, .int .u64 q1, .int .u64 q2, .int .u64 q3, .int .u64 q4, .slice ql qn qc] 27) := by rw [hV, hgl]; exact blk_new _ _)
  have HSV : ReAt (fun b => B ≤ b ∧ ¬ (X b ∨ b = gl) ∧ v.ownBlock ≠ some b) V (.agg #[.int .u8 q0, .int .u64 q1, .int .u64 q2, .int .u64 q3, .int .u64 q4, .slice ql qn qc]) z0.rx := by
    rw [hV]; refine ReAt.below (HV.out.imp fun b hb hn => ?_) (bel_al _ _); have hn' : w1.heap.size ≤ b := hn; exact ⟨by omega, fun hx => hx.elim (fun hx => by have := o1 b hx; omega) (fun hx => by omega), fun hx => by have := (o2 b hx).2.1; omega⟩
  have KS := Lib.hid (HT.out.step _ _ _ z0 _ V IV (by simp) HSV); have HSVh := Lib.hid HSV; have HXV := Lib.hid XV; have HIV := Lib.hid IV; have HBV := Lib.hid (show Below B w V from (H2.out.mono o3).trans (by rw [hV]; exact (bel_al _ _).mono (by omega))); (have hov : v.ownBlock ≠ some gl := fun e => by have := (o2 gl e).2.1; omega); have HOV := Lib.hid hov; clear hV hgl HV H2 H1 HI hI2 IV XV HSV o1 o2 o3 o4 o5 hs1 hs2 hov; rw [HT.out.enter]; refine KS.out.mono ?_; rintro z w3 ⟨rfl, ⟨v3, hI3⟩, hs3, hf3⟩; have HIN : Hid (echInv B gl z0 s (fun b => X b ∨ b = gl) I w (.int .i64 ((0 : Nat) : Int)) w3) := Lib.hid ⟨0, [z0], z0, v3, q0, q1, q2, q3, q4, ql, qn, qc, Nat.zero_le _, rfl, hI3, rfl, rfl, rfl, (hf3 gl hlo hgo HOV.out).trans HXV.out, HSVh.out.go ⟨hs3.size, fun b hb h => ⟨trivial, hf3 b hb (fun e => h.2.1 (by rw [e]; exact (HT.out.own _ _ _ _ HIV.out).2.2.2.1)) h.2.2⟩⟩, HBV.out.trans hs3⟩; clear hI3 hs3 hf3 KS HSVh HXV HIV HBV HOV hlo; rw [show ((0 : Nat) : Int) = 0 from rfl] at HIN; go_wp2
  go_loopw [22] (fun y W => echInv B gl z0 s (fun b => X b ∨ b = gl) I w y W) (fun y _ => s.size - (intOf y).toNat)
  case atStart => exact HIN.out
  case round =>
    clear HIN; obtain ⟨i, done, cur, v, l0, l1, l2, l3, l4, ll, ln, lc, hi, rfl, hIr, hwl, hwd, hdl, hXl, hRl, hbr⟩ := hrel; have HI := Lib.hid hIr; have HWL := Lib.hid hwl; have HWD := Lib.hid hwd; have HDL := Lib.hid hdl; have HXL := Lib.hid hXl; have HRL := Lib.hid hRl; have HBR := Lib.hid hbr; clear hIr hwl hwd hdl hXl hRl hbr
    by_cases hlt : i < s.size
    · obtain ⟨cw, csz, cn, -⟩ := wrd_fit _ HWD.out x0w x0s x0n; have HSN := Lib.hid (wlk_snoc _ s[i] HWL.out HWD.out); have HWA := Lib.hid (wrd_append (s.data.toList.take i) [s[i]] z0); have HDD := Lib.hid (wlk_dead (c := s[i]) (t := s.data.toList.drop (i + 1)) HWD.out); rw [← take_byte s i hlt] at HSN HWA; rw [← cut_byte s i hlt] at HDD; have KL0 := Lib.hid fun x (hx : Below wr.heap.size wr x) => limited_any s[i] cur cw csz (.agg #[.int .u8 l0, .int .u64 l1, .int .u64 l2, .int .u64 l3, .int .u64 l4, .slice ll ln lc]) x (HRL.out.below hx); have HLIM := Lib.hid (lim_two s[i] cur); obtain ⟨⟨rr, rn⟩, hp⟩ : ∃ p, p = limX s[i] cur := ⟨_, rfl⟩; rw [← hp] at KL0 HLIM; have KL := KL0; have HDW := Lib.hid (der_wf s[i] cur cw); have CL := Lib.hid fun x (hx : Below wr.heap.size wr x) => cellsR ((hx.block gl (Array.getElem?_eq_some_iff.1 HXL.out).1).trans HXL.out); (have q1 : (i : Int) < (s.size : Int) := by omega); clear hp KL0 cw csz cn; go_wp2_with fail; refine wp_region_orderS 9 (fun j => [0, 0, 0, 0, 0, 0, 0, 1, 0, 2, 1].getD j 0) (fun j => ([SP.eq (.agg #[.int .u8 l0, .int .u64 l1, .int .u64 l2, .int .u64 l3, .int .u64 l4, .slice ll ln lc]), SP.eq (.string s), SP.eq (.int .i64 i), SP.eq (.int .u8 (s[i]'hlt).toNat), SP.tw (fun _ => True) (rr, rn), SP.tw (fun _ => True) (rr, rn), SP.rw9 (fun _ => True) rr, SP.eq (.int .i64 rn), SP.vz wr.heap.size, SP.free, SP.eq (.int .i64 rn)] : List SP).getD j SP.free) (echPsi rn) (OmS 9 (echG wr.heap.size rr)) ?_ (omS_kept _ _ (by kernel_rfl)) (by kernel_rfl) (by kernel_rfl) ⟨?_, ?_, ?_, ?_, ?_, ?_, ?_, ?_, ?_, ?_, ?_, trivial⟩ ?_
      · intro j x w h
        match j, h with
        | 0, _ => trivial
        | 1, _ => trivial
        | 2, _ => trivial
        | 3, _ => trivial
        | 4, _ => trivial
        | 5, h => obtain ⟨p0, p1, p2, p3, p4, pl, pn, pc, rfl, _⟩ := h; exact ⟨_, rfl⟩
        | 6, _ => trivial
        | 7, h => exact h
        | 8, _ => trivial
        | 9, _ => trivial
        | 10, h => exact h
        | n + 11, _ => trivial
      · intro a x K out get hb hK; rw [if_pos (wanted_none rfl)]; have o7 : a.tmps[7]? = some (.pointer (some ⟨gl, 0, none⟩)) := out 7 (by kernel_rfl); clear out get; obtain ⟨c0, c1, c2, c3, c4, c5, -⟩ := CL.out x hb; go_simp; exact hK _ _ rfl (Below.refl _ _)
      · intro a x K out get hb hK; rw [if_pos (wanted_none rfl)]; have o1 : a.tmps[1]? = some (.string s) := out 1 (by kernel_rfl); clear out get; go_simp; exact hK _ _ rfl (Below.refl _ _)
      · intro a x K out get hb hK; rw [if_pos (wanted_none rfl)]; have o8 : a.tmps[8]? = some (.int .i64 i) := out 8 (by kernel_rfl); clear out get; go_simp; exact hK _ _ rfl (Below.refl _ _)
      · intro a x K out get hb hK; rw [if_pos (wanted_none rfl)]; obtain ⟨y27, hy27, rfl⟩ := get 1 _ _ rfl rfl (by kernel_rfl); obtain ⟨y28, hy28, rfl⟩ := get 2 _ _ rfl rfl (by kernel_rfl); clear out get; have hix : (0 : Int) ≤ (i : Int) ∧ (i : Int) < (s.size : Int) := ⟨by omega, by omega⟩; go_simp; exact hK _ _ rfl (Below.refl _ _)
      · intro a x K out get hb hK; rw [if_pos (wanted_none rfl)]; obtain ⟨y26, hy26, rfl⟩ := get 0 _ _ rfl rfl (by kernel_rfl); obtain ⟨y29, hy29, rfl⟩ := get 3 _ _ rfl rfl (by kernel_rfl); clear out get; go_simp; refine (KL.out x hb).mono ?_; rintro e w2 ⟨v2, rfl, hv2, hb2⟩; exact hK _ _ (TwV.of hv2 fun _ _ _ => trivial) hb2
      · intro a x K out get hb hK; rw [if_pos (wanted_none rfl)]; obtain ⟨y30, hy30, ⟨p0, p1, p2, p3, p4, pl, pn, pc, rfl, hr30⟩⟩ := get 4 _ _ rfl rfl (by kernel_rfl); clear out get; go_simp; exact hK _ _ ⟨p0, p1, p2, p3, p4, pl, pn, pc, rfl, hr30⟩ (Below.refl _ _)
      · intro a x K out get hb hK; rw [if_pos (wanted_none rfl)]; obtain ⟨y25, hy25, ⟨p0, p1, p2, p3, p4, pl, pn, pc, rfl, hr25⟩⟩ := get 5 _ _ rfl rfl (by kernel_rfl); clear out get; go_simp; exact hK _ _ ⟨p0, p1, p2, p3, p4, pl, pn, pc, rfl, hr25⟩ (Below.refl _ _)
      · intro a x K out get hK; rw [if_pos (wanted_none rfl)]; obtain ⟨y25, hy25, ⟨z25, rfl⟩⟩ := get 5 _ _ rfl rfl (by kernel_rfl); clear out get; go_simp; exact hK _ rfl (fun _ => rfl)
      · intro a x K out get hb hK; rw [if_pos (wanted_none rfl)]; clear out get; go_simp; exact hK _ _ ⟨_, rfl, hb.size, by simp, blk_new _ _⟩ (bel_al _ _)
      · intro a x K out get hb hK; rw [if_pos (wanted_none rfl)]; obtain ⟨y9, hy9, ⟨g9, rfl, hg1, hg2, hz⟩⟩ := get 8 _ _ rfl rfl (by kernel_rfl); obtain ⟨y31, hy31, ⟨p0, p1, p2, p3, p4, pl, pn, pc, rfl, hr31⟩⟩ := get 6 _ _ rfl rfl (by kernel_rfl); obtain ⟨c0, c1, c2, c3, c4, c5, f0, f1, f2, f3, f4, f5⟩ := cellsR hz; have HG := Lib.hid (show g9 < x.heap.size from hg2); have HR := Lib.hid hr31; have HZ := Lib.hid hz; clear out get hg2 hr31 hz; go_simp; exact hK _ ⟨_, hy9, g9, p0, p1, p2, p3, p4, pl, pn, pc, rfl, hg1, putR HZ.out _ _ _ _ _ _, fun e he => by subst he; exact (put_ex HZ.out HR.out).2⟩ (putB hb hg1 _ _ _ _ _ _)
      · intro a x K out get hK; rw [if_pos (wanted_none rfl)]; obtain ⟨y32, hy32, rfl⟩ := get 7 _ _ rfl rfl (by kernel_rfl); clear out get; go_simp; exact hK _ rfl (fun _ => rfl)
      refine ao_finS (isD := fun s => (decide (25 ≤ s) && decide (s ≤ 32)) || decide (s = 9) || decide (s = 10)) (by decide) (by kernel_rfl) ?_; intro f x hv hom hb; have e10 : f 10 = .int .i64 rn := hv 10 _ _ rfl rfl; obtain ⟨v9, h9, g9, p0, p1, p2, p3, p4, pl, pn, pc, rfl, hg9, hX9, hR9⟩ := hom; (have e9 : f 9 = .pointer (some ⟨g9, 0, none⟩) := by simpa [frm] using h9); clear hv h9; generalize hF : (Act.mk (List.toArray (frm f _ 0 _)) _) = fr; simp [frm] at hF; rw [e10, e9] at hF; subst hF; generalize f 25 = u25 at *; generalize f 26 = u26 at *; generalize f 27 = u27 at *; generalize f 28 = u28 at *; generalize f 29 = u29 at *; generalize f 30 = u30 at *; generalize f 31 = u31 at *; generalize f 32 = u32 at *; clear e10 e9 f; have hlw : gl < wr.heap.size := (Array.getElem?_eq_some_iff.1 HXL.out).1; obtain ⟨o1, o2, o3, o4, o5⟩ := HT.out.own _ _ _ _ HI.out; have HIX := Lib.hid (HT.out.keep _ _ _ _ _ HI.out hb); have HBX := Lib.hid hb
      rcases HLIM.out with ⟨nxt, hs1, hs2, hs3, hs4⟩ | ⟨hs1, hs3⟩
      · injection hs3 with hs5 hs6; subst hs6; have HP9 := Lib.hid (show ReAt (fun _ => True) x (.agg #[.int .u8 p0, .int .u64 p1, .int .u64 p2, .int .u64 p3, .int .u64 p4, .slice pl pn pc]) (derE s[i] cur).rx from by have := hR9 _ hs5; rw [hs5] at this; exact this); have KN := Lib.hid (normL_any (derE s[i] cur).rx _ x HP9.out); rw [normX_of HDW.out hs4, ← hs2] at KN; have HST := Lib.hid hs1; obtain ⟨c0, c1, c2, c3, c4, c5, -⟩ := cellsR hX9; clear hs1 hs2 hs4 hs5 hR9 hX9 HLIM KL HDW HP9 hb; rw [show (((0 : Nat)) : Int) = 0 from rfl]; go_wp2_with fail; refine KN.out.mono ?_; rintro z w4 ⟨v4, rfl, hv4, hb4⟩; obtain ⟨q0, q1, q2, q3, q4, ql, qn, qc, rfl⟩ := cells_re hv4; have HB4 := Lib.hid (HBX.out.trans (hb4.mono HBX.out.size)); have XG4 := Lib.hid ((HB4.out.block gl hlw).trans HXL.out); have I4 := HT.out.keep _ _ _ _ _ HI.out HB4.out; have hsp : (putW w4 gl (.int .u8 q0) (.int .u64 q1) (.int .u64 q2) (.int .u64 q3) (.int .u64 q4) (.slice ql qn qc)).heap.size = w4.heap.size := putW_size _ _ _ _ _ _ _ _; have I5 := HT.out.other _ _ _ _ (putW w4 gl (.int .u8 q0) (.int .u64 q1) (.int .u64 q2) (.int .u64 q3) (.int .u64 q4) (.slice ql qn qc)) gl I4 (.inr rfl) hgo (by rw [hsp]; exact Nat.le_refl _) (fun b h1 _ => putW_other _ _ _ _ _ _ _ _ h1); have hsz4 := HB4.out.size; have hszx := HBX.out.size
        have HSV : ReAt (fun b => B ≤ b ∧ ¬ (X b ∨ b = gl) ∧ v.ownBlock ≠ some b) (putW w4 gl (.int .u8 q0) (.int .u64 q1) (.int .u64 q2) (.int .u64 q3) (.int .u64 q4) (.slice ql qn qc)) (.agg #[.int .u8 q0, .int .u64 q1, .int .u64 q2, .int .u64 q3, .int .u64 q4, .slice ql qn qc]) nxt.rx := by
          refine hv4.go ⟨by rw [hsp]; exact Nat.le_refl _, fun b _ hn => ?_⟩; have hn' : x.heap.size ≤ b := hn; (have hbg : b ≠ gl := by omega); refine ⟨⟨by omega, fun hx => ?_, fun hx => ?_⟩, putW_other _ _ _ _ _ _ _ _ hbg⟩
          · have := o1 b hx; omega
          · have := (o2 b hx).2.1; omega
        have KS := Lib.hid (HT.out.step _ _ _ nxt _ (putW w4 gl (.int .u8 q0) (.int .u64 q1) (.int .u64 q2) (.int .u64 q3) (.int .u64 q4) (.slice ql qn qc)) I5 (by have := HDL.out; omega) HSV); have HSVh := Lib.hid HSV; have HX5 := Lib.hid (putR XG4.out (.int .u8 q0) (.int .u64 q1) (.int .u64 q2) (.int .u64 q3) (.int .u64 q4) (.slice ql qn qc)); have HOV := Lib.hid (fun e => (o2 gl e).2.2 (.inr rfl)); have HL5 := Lib.hid (show gl < (putW w4 gl (.int .u8 q0) (.int .u64 q1) (.int .u64 q2) (.int .u64 q3) (.int .u64 q4) (.slice ql qn qc)).heap.size from by rw [hsp]; omega); have HB5 := Lib.hid (show Below B w (putW w4 gl (.int .u8 q0) (.int .u64 q1) (.int .u64 q2) (.int .u64 q3) (.int .u64 q4) (.slice ql qn qc)) from putB ((HBR.out).trans (HB4.out.mono o3)) hgb (.int .u8 q0) (.int .u64 q1) (.int .u64 q2) (.int .u64 q3) (.int .u64 q4) (.slice ql qn qc)); obtain ⟨c0, c1, c2, c3, c4, c5, f0, f1, f2, f3, f4, f5⟩ := cellsR XG4.out; unfold putW at KS HSVh HX5 HL5 HB5; clear hv4 hb4 I4 I5 hsp HSV KN o1 o2 hsz4 hszx; go_wp2_with fail; rw [HT.out.enter]; refine KS.out.mono ?_; rintro z w5 ⟨rfl, ⟨v5, hI5⟩, hb5, hf5⟩; have H : Hid (echInv B gl z0 s (fun b => X b ∨ b = gl) I w (.int .i64 ((i + 1 : Nat) : Int)) w5) := Lib.hid ⟨i + 1, done ++ [nxt], nxt, v5, q0, q1, q2, q3, q4, ql, qn, qc, hlt, rfl, hI5, by rw [HSN.out, HST.out]; rfl, by rw [HWA.out, HWD.out]; simp only [Option.bind_some, wrdE, HST.out], by rw [List.length_append, HDL.out]; rfl, (hf5 gl HL5.out hgo HOV.out).trans HX5.out, HSVh.out.go ⟨hb5.size, fun b hb h => ⟨trivial, hf5 b hb (fun e => h.2.1 (.inl (by rw [e]; exact HO4.out))) h.2.2⟩⟩, HB5.out.trans hb5⟩; clear hI5 hb5 hf5 KS HSVh HX5 HL5 HB5 HOV HST HSN HWA HWD HDL HXL HRL HWL; go_wp2; exact ⟨by simpa using H.out, by simp [intOf]; omega⟩
      · injection hs3 with hs5 hs6; subst hs6; have HQ := Lib.hid (show Told z0 s.data.toList done 4 from .inr ⟨rfl, HDD.out hs1⟩); have HBF := Lib.hid (HBR.out.trans (HBX.out.mono o3)); clear hs1 hs5 hR9 hX9 HLIM KL HDW hb o1 o2 HXL HRL HWL HWD HSN HWA HDD HDL; rw [show (((4 : Nat)) : Int) = 4 from rfl]; go_wp2; go_ret; exact ⟨_, _, _, 4, rfl, HIX.out, HBF.out, HQ.out⟩
    · (have he : i = s.size := by omega); subst he; have hta : s.data.toList.take s.size = s.data.toList := List.take_of_length_le (by rw [Array.length_toList]; exact Nat.le_refl _); have HQ := Lib.hid (show Told z0 s.data.toList done 0 from .inl ⟨rfl, by rw [← HWL.out, hta]⟩); (have q1 : ¬ (s.size : Int) < (s.size : Int) := by omega); clear hta HWL HWD HDL HXL HRL hlt; go_wp2; go_ret; exact ⟨_, _, _, 0, rfl, HI.out, HBR.out, HQ.out⟩
def Tells (r : Rx) (s : List UInt8) (done : List Ex) (n : Nat) : Prop := (mayR r = false ∧ n = 1) ∨ ∃ e : Ex, e.rx = r ∧ e.Wf ∧ e.size ≤ 2000 ∧ Told (nfE e) s done n
set_option maxRecDepth 100000 in
set_option maxHeartbeats 4000000 in
theorem ech_any {B o fn : Nat} {cs : Array Value} {I : (Nat → Prop) → Value → List Ex → World → Prop} (hT : Telling B o fn cs I) (r : Rx) (s : ByteArray) (hz : s.size ≤ 100000) {X : Nat → Prop} {v : Value} {ok : Nat → Prop} (vr : Value) (w : World) (hI : I X v [] w) (h : ReAt ok w vr r) :
    Calls Tryz.prog 32 #[vr, .string s, .func (.func fn) #[] cs] w (EchPost B I (Tells r s.data.toList) w) := by
  cases hm : mayR r with
  | true =>
    obtain ⟨e0, he, we, hs⟩ := may_ex h hm; refine (ech_loop hT r s e0 he we hs hz vr w hI h).mono ?_; rintro x w' ⟨X', v', done, n, h1, h2, h3, h4⟩; exact ⟨X', v', done, n, h1, h2, h3, .inr ⟨e0, he, we, hs, h4⟩⟩
  | false =>
    obtain ⟨x0, x1, x2, x3, x4, xl, xn, xc, rfl⟩ := cells_re h; have hb0 := bel_al w (.cells #[.int .u8 x0, .int .u64 x1, .int .u64 x2, .int .u64 x3, .int .u64 x4, .slice xl xn xc] 27); have K1 := Lib.hid (may_one r (w.heap.size + 1) ((w.alloc (.cells #[.int .u8 x0, .int .u64 x1, .int .u64 x2, .int .u64 x3, .int .u64 x4, .slice xl xn xc] 27)).alloc (.cells #[.int .u8 x0, .int .u64 x1, .int .u64 x2, .int .u64 x3, .int .u64 x4, .slice xl xn xc] 27)) (row_one (ok := fun _ => True) (blk_at _ _ (by simp)) trivial (((h.below hb0).below (bel_al _ _)).imp fun _ _ _ => trivial))); rw [hm] at K1; have hQ : Tells r s.data.toList [] 1 := .inl ⟨hm, rfl⟩; have HQ := Lib.hid hQ; have HT := Lib.hid hT; have HI := Lib.hid hI; have HB0 := Lib.hid hb0; have HBW := Lib.hid (hT.own _ _ _ _ hI).2.2.1; clear hb0 hm h hQ hI hT; go_enter Tryz.func32, Tryz.ntmps32; go_wp2_with fail; refine K1.out.mono ?_; rintro x w1 ⟨rfl, hb1⟩; have H1 := Lib.hid (HB0.out.trans ((bel_al _ _).trans (hb1.mono (by simp)) |>.mono (by simp))); have HI1 := Lib.hid (HT.out.keep _ _ _ _ _ HI.out H1.out); have HB1 := Lib.hid (H1.out.mono HBW.out); clear hb1 K1 HB0 H1 HI; go_wp2; go_ret; exact ⟨_, _, [], 1, rfl, HI1.out, HB1.out, HQ.out⟩
open Go.RowKit
def PVx (B o : Nat) (X : Nat → Prop) (v : Value) (ps : List Ex) (w : World) : Prop := B ≤ w.heap.size ∧ B ≤ o ∧ X o ∧ ∃ xs, w.heap[o]? = some (.cells #[v] 25) ∧ w.ownsRow B 27 6 v ps.length xs ∧ RowVals (fun b => okV B X b ∧ v.ownBlock ≠ some b) w xs (ps.map Ex.rx) ∧ ∀ x, X x → x < w.heap.size ∧ v.ownBlock ≠ some x
theorem PVx.of {B o : Nat} {X : Nat → Prop} {ps : List Ex} {w : World} (hb : B ≤ w.heap.size) (ho : B ≤ o) (hX : X o) (h : PV B X (okV B X) o ps w) : ∃ v, PVx B o X v ps w := by
  obtain ⟨v, xs, h⟩ := h; exact ⟨v, hb, ho, hX, xs, h⟩
def PushX (B o : Nat) (X : Nat → Prop) (v : Value) (ps : List Ex) (w : World) (x : Ending) (w' : World) : Prop := x = .returned (.tuple #[]) ∧ (∃ v', PVx B o X v' ps w') ∧ Below B w w' ∧ ∀ b, b < w.heap.size → b ≠ o → v.ownBlock ≠ some b → w'.heap[b]? = w.heap[b]?
theorem push_frame {B o : Nat} {X : Nat → Prop} {ps : List Ex} {w wA w2 W3 : World} {v : Value} {g' : Nat} (hBo : B ≤ o) (hX : X o) (hBw : B ≤ w.heap.size) (hA : Below w.heap.size w wA) (hgrow : wA.grownBy w2 v.ownBlock) (hat : v.ownBlock = some g' ∨ g' = wA.heap.size) (f : ∀ b, b ≠ g' → b ≠ o → W3.heap[b]? = w2.heap[b]?) (h : PushPost B X (okV B X) o ps w (.returned (.tuple #[])) W3) : PushX B o X v ps w (.returned (.tuple #[])) W3 := by
  obtain ⟨h1, h2, h3, _⟩ := h; refine ⟨h1, PVx.of (Nat.le_trans hBw h3.size) hBo hX h2, h3, fun b hb hbo hv => ?_⟩; have hsz := hA.size
  have hbg : b ≠ g' := fun e => by
    rcases hat with h | h
    · exact hv (by rw [h, e])
    · omega
  rw [f b hbg hbo, hgrow.block b (by omega) (fun e => hv e.symm)]; exact hA.block b hb
theorem push_A {B : Nat} {X : Nat → Prop} {o : Nat} {ps : List Ex} {w wA w2 : World} {v : Value} {xs : List Value} {e : Ex} {c0 c1 c2 c3 c4 c5 z0 z1 z2 z3 z4 z5 : Value} {g' cap' : Nat} (hX : X o) (hok : ∀ b, okV B X b → ¬ X b) (hBo : B ≤ o) (hBw : B ≤ w.heap.size)
    (hown : w.ownsRow B 27 6 v ps.length xs) (h3 : RowVals (fun b => okV B X b ∧ v.ownBlock ≠ some b) w xs (ps.map Ex.rx)) (h4 : ∀ x, X x → x < w.heap.size ∧ v.ownBlock ≠ some x) (hA : Below w.heap.size w wA) (hre : ReAt (fun b => okV B X b ∧ v.ownBlock ≠ some b) wA (.agg #[c0, c1, c2, c3, c4, c5]) e.rx)
    (how : w2.ownsRow B 27 6 (.slice (some ⟨g', 0, none⟩) (ps.length + 1) cap') (ps.length + 1) (xs ++ [z0, z1, z2, z3, z4, z5])) (hgrow : wA.grownBy w2 v.ownBlock) (hat : v.ownBlock = some g' ∨ g' = wA.heap.size) (hvo : w2.heap[o]? = some (.cells #[v] 25)) (hne : ¬ o = g') :
    PushX B o X v (ps ++ [e]) w (.returned (.tuple #[])) (((((((w2.setCell ⟨g', ps.length * 6, none⟩ c0).setCell ⟨g', ps.length * 6 + 1, none⟩ c1).setCell ⟨g', ps.length * 6 + 2, none⟩ c2).setCell ⟨g', ps.length * 6 + 3, none⟩ c3).setCell ⟨g', ps.length * 6 + 4, none⟩ c4).setCell ⟨g', ps.length * 6 + 5, none⟩ c5).setCell ⟨o, 0, none⟩ (.slice (some ⟨g', 0, none⟩) (ps.length + 1) cap')) := by
  refine push_frame hBo hX hBw hA hgrow hat (fun b h1 h2 => ?_) (push_closeA hX hok hBo hBw hown h3 h4 hA hre how hgrow hat hvo hne); show ((put6 w2 g' (ps.length * 6) c0 c1 c2 c3 c4 c5).setCell ⟨o, 0, none⟩ (.slice (some ⟨g', 0, none⟩) (ps.length + 1) cap')).heap[b]? = _; rw [Below.heap_setCell _ _ _ _ h2, put6_other _ _ _ _ _ _ _ _ _ h1]
theorem push_B {B : Nat} {X : Nat → Prop} {o : Nat} {ps : List Ex} {w wA w2 : World} {v : Value} {xs : List Value} {e : Ex} {c0 c1 c2 c3 c4 c5 z0 z1 z2 z3 z4 z5 : Value} {g' cap' : Nat} (hX : X o) (hok : ∀ b, okV B X b → ¬ X b) (hBo : B ≤ o) (hBw : B ≤ w.heap.size)
    (hown : w.ownsRow B 27 6 v ps.length xs) (h3 : RowVals (fun b => okV B X b ∧ v.ownBlock ≠ some b) w xs (ps.map Ex.rx)) (h4 : ∀ x, X x → x < w.heap.size ∧ v.ownBlock ≠ some x) (hA : Below w.heap.size w wA) (hre : ReAt (fun b => okV B X b ∧ v.ownBlock ≠ some b) wA (.agg #[c0, c1, c2, c3, c4, c5]) e.rx)
    (how : w2.ownsRow B 27 6 (.slice (some ⟨g', 0, none⟩) (ps.length + 1) cap') (ps.length + 1) (xs ++ [z0, z1, z2, z3, z4, z5])) (hgrow : wA.grownBy w2 v.ownBlock) (hat : v.ownBlock = some g' ∨ g' = wA.heap.size) (hvo : w2.heap[o]? = some (.cells #[v] 25)) (hne : ¬ o = g') :
    PushX B o X v (ps ++ [e]) w (.returned (.tuple #[])) (((((((w2.setCell ⟨o, 0, none⟩ (.slice (some ⟨g', 0, none⟩) (ps.length + 1) cap')).setCell ⟨g', ps.length * 6, none⟩ c0).setCell ⟨g', ps.length * 6 + 1, none⟩ c1).setCell ⟨g', ps.length * 6 + 2, none⟩ c2).setCell ⟨g', ps.length * 6 + 3, none⟩ c3).setCell ⟨g', ps.length * 6 + 4, none⟩ c4).setCell ⟨g', ps.length * 6 + 5, none⟩ c5) := by
  refine push_frame hBo hX hBw hA hgrow hat (fun b h1 h2 => ?_) (push_closeB hX hok hBo hBw hown h3 h4 hA hre how hgrow hat hvo hne); show (put6 (w2.setCell ⟨o, 0, none⟩ (.slice (some ⟨g', 0, none⟩) (ps.length + 1) cap')) g' (ps.length * 6) c0 c1 c2 c3 c4 c5).heap[b]? = _; rw [put6_other _ _ _ _ _ _ _ _ _ h1, Below.heap_setCell _ _ _ _ h2]
set_option maxHeartbeats 8000000 in
set_option maxRecDepth 100000 in
theorem walk1_any {B : Nat} {X : Nat → Prop} {o : Nat} {v : Value} {ps : List Ex} {e : Ex} {v0 : Value} {w : World} (hlen : ps.length < 1000000) (hP : PVx B o X v ps w) (hre : ReAt (fun b => B ≤ b ∧ ¬ X b ∧ v.ownBlock ≠ some b) w v0 e.rx) :
    Calls Tryz.prog 33 #[v0, .pointer (some ⟨o, 0, none⟩)] w (PushX B o X v (ps ++ [e]) w) := by
  obtain ⟨y0, y1, y2, y3, y4, yl, yn, yc, rfl⟩ := cells_re hre; obtain ⟨hBw, hBo, hX, xs, h1, hown, h3, h4⟩ := hP; obtain ⟨al, vc, rfl⟩ : ∃ al c, v = .slice al ps.length c := own_form hown; obtain ⟨i0, z0, hi0, hz0, hz1, hz2, hz3⟩ := infoR2; have hz2' := Lib.hid hz2; have HX : X o := hX; have HOK := Lib.hid (show ∀ b, okV B X b → ¬ X b from fun b h => h.2); have HOWN := Lib.hid hown; have H3 := Lib.hid h3; have H4 := Lib.hid h4; have BX := Lib.hid (show (w.alloc (.cells #[.int .u8 y0, .int .u64 y1, .int .u64 y2, .int .u64 y3, .int .u64 y4, .slice yl yn yc] 27)).heap[w.heap.size]? = some (.cells #[.int .u8 y0, .int .u64 y1, .int .u64 y2, .int .u64 y3, .int .u64 y4, .slice yl yn yc] 27) ∧ Below w.heap.size w (w.alloc (.cells #[.int .u8 y0, .int .u64 y1, .int .u64 y2, .int .u64 y3, .int .u64 y4, .slice yl yn yc] 27)) from ⟨blk_new w _, (Below.refl _ w).alloc (Nat.le_refl _) _⟩); have HRE := Lib.hid (hre.imp (ok' := fun b => okV B X b ∧ (Value.slice al ps.length vc).ownBlock ≠ some b) fun b _ h => ⟨⟨h.1, h.2.1⟩, h.2.2⟩); have V0 := Lib.hid h1; clear hz2 hX hown h3 h4 hre h1; go_enter Tryz.func33, Tryz.ntmps33; go_wp2_with fail; obtain ⟨W, hW⟩ : ∃ x, x = w.alloc (.cells #[.int .u8 y0, .int .u64 y1, .int .u64 y2, .int .u64 y3, .int .u64 y4, .slice yl yn yc] 27) := ⟨_, rfl⟩; rw [← hW] at BX ⊢; clear hW; have WB := Lib.hid fun x (hx : Below W.heap.size W x) => BX.out.2.trans (hx.mono BX.out.2.size); have VO := Lib.hid fun x (hx : Below W.heap.size W x) => ((WB.out x hx).block o (H4.out o HX).1).trans V0.out; have CB := Lib.hid fun x (hx : Below W.heap.size W x) => cellsR ((hx.block _ (Array.getElem?_eq_some_iff.1 BX.out.1).1).trans BX.out.1); refine wp_region_orderA 4 (fun i => ([SP.eq (.slice al ps.length vc), SP.eq (.agg #[.int .u8 y0, .int .u64 y1, .int .u64 y2, .int .u64 y3, .int .u64 y4, .slice yl yn yc]), SP.eq (.int .i64 ps.length), SP.zero] : List SP).getD i SP.free) (fun _ => false) (fun _ _ _ h => by cases h) (by kernel_rfl) (by kernel_rfl) ⟨?_, ?_, ?_, ?_, trivial⟩ ?_
  · intro a x K out get hb hK; rw [if_pos (wanted_none rfl)]; have o1 : a.tmps[1]? = some (.pointer (some ⟨o, 0, none⟩)) := out 1 (by kernel_rfl); obtain ⟨c0, -⟩ := var_cell (VO.out x hb); clear out get; go_simp; exact hK _ _ rfl (Below.refl _ _) (fun h => by cases h)
  · intro a x K out get hb hK; rw [if_pos (wanted_none rfl)]; have o2 : a.tmps[2]? = some (.pointer (some ⟨w.heap.size, 0, none⟩)) := out 2 (by kernel_rfl); obtain ⟨c0, c1, c2, c3, c4, c5, -⟩ := CB.out x hb; clear out get; go_simp; exact hK _ _ rfl (Below.refl _ _) (fun h => by cases h)
  · intro a x K out get hb hK; rw [if_pos (wanted_none rfl)]; obtain ⟨y3, hy3, rfl⟩ := get 0 _ _ rfl rfl (by kernel_rfl); clear out get; go_simp; exact hK _ _ rfl (Below.refl _ _) (fun h => by cases h)
  · intro a x K out get hb hK; rw [if_pos (wanted_none rfl)]; clear out get; go_simp; exact hK _ _ ⟨_, rfl, blk_new _ _⟩ (bel_al _ _) (fun h => by cases h)
  refine ao_finA (isD := fun s => decide (3 ≤ s) && decide (s ≤ 8)) (by kernel_rfl) ?_; intro f x hv hne hb; clear hne; have e3 : f 3 = _ := hv 0 _ _ (by decide) rfl rfl; have e4 : f 4 = _ := hv 1 _ _ (by decide) rfl rfl; have e5 : f 5 = _ := hv 2 _ _ (by decide) rfl rfl; obtain ⟨gz, e6, hz⟩ := hv 3 _ _ (by decide) rfl rfl; have hbx := WB.out x hb; have hox := VO.out x hb; have HE := Lib.hid (HRE.out.below hbx); have hownx := ownR_below HOWN.out hbx; have hBx := Nat.le_trans hBw hbx.size; clear hv; generalize hF : (Act.mk (List.toArray (frm f _ 0 _)) _) = fr; simp [frm] at hF; rw [e3, e4, e5, e6] at hF; subst hF; generalize f 7 = u7 at *; generalize f 8 = u8 at *; clear e3 e4 e5 e6 f; refine wp_end (n := 4) (by kernel_rfl) rfl rfl rfl rfl ?_; refine step_append_lies _ rfl (.tmp 3) (.tmp 6) 25 rfl B 27 i0 z0 6 64 Tryz.underlying25 hi0 hz0 hz1 hz2'.out hz3 (by decide) (.slice al ps.length vc) ps.length xs rfl hownx ⟨gz, 0, none⟩ 1 1 [.int .u8 0, .int .u64 0, .int .u64 0, .int .u64 0, .int .u64 0, .slice none 0 0] rfl rfl (zero_at hz) zero6_one (by decide) (by unfold maxLen; omega) (by omega) hBx _ rfl ?_; intro g' cap' w2 hown hgrow hat hlt; obtain ⟨⟨n0, n1, n2, n3, n4, n5⟩, m0, m1, m2, m3, m4, m5⟩ := new6 HOWN.out.1 hown
  have hne : ¬ o = g' := fun e => by
    rcases hat with h | h
    · exact (H4.out o HX).2 (by rw [h, e])
    · have := (H4.out o HX).1; have := hbx.size; omega
  have hne' : ¬ g' = o := fun e => hne e.symm; have hvo := (hgrow.block o (Nat.lt_of_lt_of_le (H4.out o HX).1 hbx.size) fun e => (H4.out o HX).2 e.symm).trans hox; obtain ⟨v0c, v0f⟩ := var_cell hvo; (have hidx : (ps.length : Int) < (ps.length : Int) + 1 := by omega); have HOW := Lib.hid hown; have HGR := Lib.hid hgrow; have HAT := Lib.hid hat; have HBX := Lib.hid hbx; have HVO := Lib.hid hvo; clear hown hgrow hat hbx hvo hox hz hownx hBx hb; refine ⟨?_, ?_⟩
  · rw [if_pos (wanted_none rfl)]; go_simp; refine ⟨?_, ?_⟩
    · go_wp2; go_end0
      with_reducible exact push_A HX HOK.out hBo hBw HOWN.out H3.out H4.out HBX.out HE.out HOW.out HGR.out HAT.out HVO.out hne
    · go_wp2; go_end0
      with_reducible exact push_B HX HOK.out hBo hBw HOWN.out H3.out H4.out HBX.out HE.out HOW.out HGR.out HAT.out HVO.out hne
  · go_wp2; go_end0
    with_reducible exact push_B HX HOK.out hBo hBw HOWN.out H3.out H4.out HBX.out HE.out HOW.out HGR.out HAT.out HVO.out hne

set_option maxRecDepth 100000 in
theorem tell_walk (B o : Nat) : Telling B o 33 #[.pointer (some ⟨o, 0, none⟩)] (PVx B o) where
  enter := fun v w => rfl
  own := fun X v done w ⟨h1, h2, h3, xs, h4, h5, h6, h7⟩ => ⟨fun c hc => (h7 c hc).1, fun g hg => ⟨(own_lt' h5 g hg).1, (own_lt' h5 g hg).2, fun hx => (h7 g hx).2 hg⟩, h1, h3, h2⟩
  keep := fun X v done w w' ⟨h1, h2, h3, xs, h4, h5, h6, h7⟩ hb => ⟨Nat.le_trans h1 hb.size, h2, h3, xs, (hb.block _ (Array.getElem?_eq_some_iff.1 h4).1).trans h4, ownR_below h5 hb, h6.go (keptB hb _), fun x hx => ⟨Nat.lt_of_lt_of_le (h7 x hx).1 hb.size, (h7 x hx).2⟩⟩
  more := fun X v done w w' c ⟨h1, h2, h3, xs, h4, h5, h6, h7⟩ hb hc hc' => ⟨Nat.le_trans h1 hb.size, h2, .inl h3, xs, (hb.block _ (Array.getElem?_eq_some_iff.1 h4).1).trans h4, ownR_below h5 hb, h6.go ⟨hb.size, fun b hlt h => ⟨⟨⟨h.1.1, fun hx => hx.elim h.1.2 (fun e => by omega)⟩, h.2⟩, hb.block b hlt⟩⟩, fun x hx => hx.elim (fun hx => ⟨Nat.lt_of_lt_of_le (h7 x hx).1 hb.size, (h7 x hx).2⟩) (fun e => by subst e; exact ⟨hc', fun hg => by have := (own_lt' h5 x hg).2; omega⟩)⟩
  other := fun X v done w w' c ⟨h1, h2, h3, xs, h4, h5, h6, h7⟩ hc hco hs hk => ⟨Nat.le_trans h1 hs, h2, h3, xs, (hk _ (Ne.symm hco) (Array.getElem?_eq_some_iff.1 h4).1).trans h4, own_go h5 fun g hg hl => hk g (fun e => (h7 c hc).2 (by rw [hg, e])) hl, h6.go ⟨hs, fun b hl hb => ⟨hb, hk b (fun e => hb.1.2 (by rw [e]; exact hc)) hl⟩⟩, fun x hx => ⟨Nat.lt_of_lt_of_le (h7 x hx).1 hs, (h7 x hx).2⟩⟩
  step := fun X v done e x w h hl hr => (walk1_any hl h hr).mono fun z w' ⟨h1, h2, h3, h4⟩ => ⟨h1, h2, h3, h4⟩
open Go.RowKit
theorem tells_wlk {r : Rx} {s : List UInt8} {done : List Ex} {n : Nat} (h : Tells r s done n) : (n = 0 → wlkX r s = (done.map Ex.rx, 0)) ∧ (n ≠ 0 → wlkX r s = ([], n)) := by
  rcases h with ⟨hm, rfl⟩ | ⟨e, rfl, we, hs, h⟩
  · exact ⟨fun h => (by cases h), fun _ => by unfold wlkX; rw [exX_no hm]⟩
  · unfold wlkX; rw [exX_of we hs]
    rcases h with ⟨rfl, h⟩ | ⟨rfl, h⟩
    · exact ⟨fun _ => by simp only [h], fun h => absurd rfl h⟩
    · exact ⟨fun h => (by cases h), fun _ => by simp only [h]⟩
theorem tells_wrd {r : Rx} {s : List UInt8} {done : List Ex} {n : Nat} (h : Tells r s done n) : (n = 0 → ∃ y : Ex, done.getLast? = some y ∧ wrdX r s = (y.rx, 0)) ∧ (n ≠ 0 → wrdX r s = (zeroX, n)) := by
  rcases h with ⟨hm, rfl⟩ | ⟨e, rfl, we, hs, h⟩
  · exact ⟨fun h => (by cases h), fun _ => by unfold wrdX; rw [exX_no hm]⟩
  · unfold wrdX; rw [exX_of we hs]
    rcases h with ⟨rfl, h⟩ | ⟨rfl, h⟩
    · refine ⟨fun _ => ?_, fun h => absurd rfl h⟩; obtain ⟨h1, _, _, h4⟩ := wlk_some s h (nf_wf e we) (Nat.le_trans (nf_size e) hs) (nf_again e we); (have hl : done.length - 1 < done.length := by omega); rw [List.getElem?_eq_getElem hl] at h4; refine ⟨_, by rw [List.getLast?_eq_getElem?, List.getElem?_eq_getElem hl], ?_⟩; simp only [h4]
    · have := (wlk_none s).1 h; exact ⟨fun h => (by cases h), fun _ => by simp only [this]⟩
def WkPost (p : List Rx × Nat) (w : World) (e : Ending) (w' : World) : Prop := ∃ al cap, e = .returned (.tuple #[.slice al p.1.length cap, .int .i64 p.2]) ∧ p.1.length ≤ cap ∧ RowAt (fun b => w.heap.size ≤ b) w' al p.1 ∧ Below w.heap.size w w'
set_option maxHeartbeats 4000000 in
set_option maxRecDepth 100000 in
theorem walk_any (r : Rx) (s : ByteArray) (hz : s.size ≤ 100000) {ok : Nat → Prop} (v : Value) (w : World) (h : ReAt ok w v r) :
    Calls Tryz.prog 15 #[v, .string s] w (WkPost (wlkX r s.data.toList) w) := by
  obtain ⟨x0, x1, x2, x3, x4, xl, xn, xc, rfl⟩ := cells_re h; obtain ⟨W, hW⟩ : ∃ x, x = (w.alloc (.cells #[.int .u8 x0, .int .u64 x1, .int .u64 x2, .int .u64 x3, .int .u64 x4, .slice xl xn xc] 27)).alloc (.cells #[.slice none 0 0] 25) := ⟨_, rfl⟩; (have hbW : Below w.heap.size w W := by rw [hW]; exact al2 w _ _); (have hO : W.heap[w.heap.size + 1]? = some (.cells #[.slice none 0 0] 25) := by rw [hW]; exact blk_at _ _ (by simp)); (have hlt : w.heap.size + 1 < W.heap.size := by rw [hW]; simp); have hI : PVx w.heap.size (w.heap.size + 1) (fun b => b = w.heap.size + 1) (.slice none 0 0) [] W := ⟨hbW.size, by omega, rfl, [], hO, ⟨rfl, .inl ⟨rfl, rfl⟩⟩, RowVals.nil _ _, fun x hx => ⟨by rw [hx]; exact hlt, by simp [Value.ownBlock]⟩⟩; have KE := Lib.hid (ech_any (tell_walk w.heap.size (w.heap.size + 1)) r s hz _ W hI (h.below hbW)); have HBW := Lib.hid hbW; have HW := Lib.hid hW; clear hI hO hlt hbW hW h; obtain ⟨res, hres⟩ : ∃ z, z = wlkX r s.data.toList := ⟨_, rfl⟩; rw [← hres]; have HRES := Lib.hid hres; clear hres; go_enter Tryz.func15, Tryz.ntmps15; go_wp2_with fail; rw [← HW.out]; refine KE.out.mono ?_; rintro e w1 ⟨X, v, done, n, rfl, hI1, hb1, hq⟩; obtain ⟨_, _, _, xs, h1, h2, h3, h4⟩ := hI1; obtain ⟨t1, t2⟩ := tells_wlk hq; have HB1 := Lib.hid (HBW.out.trans hb1)
  by_cases hn : n = 0
  · subst hn; have t := t1 rfl; rw [← HRES.out] at t; subst t; obtain ⟨al, cap, rfl, e2, e3⟩ := row_of_own (l := done.map Ex.rx) (by rw [List.length_map]; exact h2) h3; (have c0 : w1.cell? ⟨w.heap.size + 1, 0, none⟩ = some (.slice al done.length cap) := by rw [Lib.cell_of_heap h1, List.length_map]; rfl); have HR := Lib.hid (show RowAt (fun b => w.heap.size ≤ b) w1 al (done.map Ex.rx) from e3.imp fun b _ h => h.elim (fun h => h.1.1) id); clear h1 h2 h3 h4 hq hb1 t1 t2 e3 KE HW HBW HRES; rw [show ((0 : Nat) : Int) = 0 from rfl]; go_wp2; go_ret2; exact ⟨al, cap, by simp, e2, HR.out, HB1.out⟩
  · have t := t2 hn; rw [← HRES.out] at t; subst t; (have hn2 : ((n : Int) == 0) = false := by simp; exact hn); clear h1 h2 h3 h4 hq hb1 t1 t2 KE HW HBW HRES; go_wp2; go_ret2; exact ⟨none, 0, rfl, Nat.le_refl _, .inl rfl, HB1.out⟩
open Go.RowKit
def WVx (B o : Nat) (X : Nat → Prop) (v : Value) (ps : List Ex) (w : World) : Prop := B ≤ w.heap.size ∧ B ≤ o ∧ X o ∧ v = .slice none 0 0 ∧ (∀ x, X x → x < w.heap.size) ∧ ∃ (p0 p1 p2 p3 p4 : Int) (pl : Option Addr) (pn pc : Nat), w.heap[o]? = some (.cells #[.int .u8 p0, .int .u64 p1, .int .u64 p2, .int .u64 p3, .int .u64 p4, .slice pl pn pc] 27) ∧ ∀ e : Ex, ps.getLast? = some e → ReAt (fun b => B ≤ b ∧ ¬ X b) w (.agg #[.int .u8 p0, .int .u64 p1, .int .u64 p2, .int .u64 p3, .int .u64 p4, .slice pl pn pc]) e.rx
set_option maxHeartbeats 4000000 in
set_option maxRecDepth 100000 in
theorem word1_any {B : Nat} {X : Nat → Prop} {o : Nat} {v : Value} {ps : List Ex} {e : Ex} {v0 : Value} {w : World} (hP : WVx B o X v ps w) (hre : ReAt (fun b => B ≤ b ∧ ¬ X b ∧ v.ownBlock ≠ some b) w v0 e.rx) :
    Calls Tryz.prog 34 #[v0, .pointer (some ⟨o, 0, none⟩)] w fun z w' => z = .returned (.tuple #[]) ∧ (∃ v', WVx B o X v' (ps ++ [e]) w') ∧ Below B w w' ∧ ∀ b, b < w.heap.size → b ≠ o → v.ownBlock ≠ some b → w'.heap[b]? = w.heap[b]? := by
  obtain ⟨y0, y1, y2, y3, y4, yl, yn, yc, rfl⟩ := cells_re hre; obtain ⟨hBw, hBo, hX, rfl, h4, p0, p1, p2, p3, p4, pl, pn, pc, h1, _⟩ := hP
  have hq : (∃ v', WVx B o X v' (ps ++ [e]) ((putW w o (.int .u8 y0) (.int .u64 y1) (.int .u64 y2) (.int .u64 y3) (.int .u64 y4) (.slice yl yn yc)).alloc (.cells #[.int .u8 y0, .int .u64 y1, .int .u64 y2, .int .u64 y3, .int .u64 y4, .slice yl yn yc] 27))) ∧ Below B w ((putW w o (.int .u8 y0) (.int .u64 y1) (.int .u64 y2) (.int .u64 y3) (.int .u64 y4) (.slice yl yn yc)).alloc (.cells #[.int .u8 y0, .int .u64 y1, .int .u64 y2, .int .u64 y3, .int .u64 y4, .slice yl yn yc] 27)) ∧ ∀ b, b < w.heap.size → b ≠ o → ((putW w o (.int .u8 y0) (.int .u64 y1) (.int .u64 y2) (.int .u64 y3) (.int .u64 y4) (.slice yl yn yc)).alloc (.cells #[.int .u8 y0, .int .u64 y1, .int .u64 y2, .int .u64 y3, .int .u64 y4, .slice yl yn yc] 27)).heap[b]? = w.heap[b]? := by
    have hsz : (putW w o (.int .u8 y0) (.int .u64 y1) (.int .u64 y2) (.int .u64 y3) (.int .u64 y4) (.slice yl yn yc)).heap.size = w.heap.size := putW_size _ _ _ _ _ _ _ _; have hb := bel_al (putW w o (.int .u8 y0) (.int .u64 y1) (.int .u64 y2) (.int .u64 y3) (.int .u64 y4) (.slice yl yn yc)) (.cells #[.int .u8 y0, .int .u64 y1, .int .u64 y2, .int .u64 y3, .int .u64 y4, .slice yl yn yc] 27); have hfr : ∀ b, b < w.heap.size → b ≠ o → ((putW w o (.int .u8 y0) (.int .u64 y1) (.int .u64 y2) (.int .u64 y3) (.int .u64 y4) (.slice yl yn yc)).alloc (.cells #[.int .u8 y0, .int .u64 y1, .int .u64 y2, .int .u64 y3, .int .u64 y4, .slice yl yn yc] 27)).heap[b]? = w.heap[b]? := fun b h1 h2 => (hb.block b (by omega)).trans (putW_other _ _ _ _ _ _ _ _ h2); have hs2 := hb.size; refine ⟨⟨.slice none 0 0, by omega, hBo, hX, rfl, fun x hx => by have := h4 x hx; omega, y0, y1, y2, y3, y4, yl, yn, yc, (hb.block o (by have := h4 o hX; omega)).trans (putR h1 _ _ _ _ _ _), fun e' he => ?_⟩, (putB (Below.refl B w) hBo _ _ _ _ _ _).trans (hb.mono (by omega)), hfr⟩; (have he : e' = e := by simp at he; exact he.symm); subst he; exact hre.go ⟨by omega, fun b hb h => ⟨⟨h.1, h.2.1⟩, hfr b hb (fun e => h.2.1 (by rw [e]; exact hX))⟩⟩
  obtain ⟨c0, c1, c2, c3, c4, c5, f0, f1, f2, f3, f4, f5⟩ := cellsR h1; have hlt : o < w.heap.size := h4 o hX; have HQ := Lib.hid hq; unfold putW at HQ; clear hq hre h1 h4 hX; go_enter Tryz.func34, Tryz.ntmps34; go_wp2; go_end0; exact ⟨rfl, HQ.out.1, HQ.out.2.1, fun b h1 h2 _ => HQ.out.2.2 b h1 h2⟩
set_option maxRecDepth 100000 in
theorem tell_word (B o : Nat) : Telling B o 34 #[.pointer (some ⟨o, 0, none⟩)] (WVx B o) where
  enter := fun v w => rfl
  own := fun X v done w ⟨h1, h2, h3, h4, h5, _⟩ => ⟨h5, fun g hg => by subst h4; simp [Value.ownBlock] at hg, h1, h3, h2⟩
  keep := fun X v done w w' ⟨h1, h2, h3, h4, h5, p0, p1, p2, p3, p4, pl, pn, pc, h6, h7⟩ hb => ⟨Nat.le_trans h1 hb.size, h2, h3, h4, fun x hx => Nat.lt_of_lt_of_le (h5 x hx) hb.size, p0, p1, p2, p3, p4, pl, pn, pc, (hb.block _ (Array.getElem?_eq_some_iff.1 h6).1).trans h6, fun e he => (h7 e he).below hb⟩
  more := fun X v done w w' c ⟨h1, h2, h3, h4, h5, p0, p1, p2, p3, p4, pl, pn, pc, h6, h7⟩ hb hc hc' => ⟨Nat.le_trans h1 hb.size, h2, .inl h3, h4, fun x hx => hx.elim (fun hx => Nat.lt_of_lt_of_le (h5 x hx) hb.size) (fun e => by subst e; exact hc'), p0, p1, p2, p3, p4, pl, pn, pc, (hb.block _ (Array.getElem?_eq_some_iff.1 h6).1).trans h6, fun e he => (h7 e he).go ⟨hb.size, fun b hlt h => ⟨⟨h.1, fun hx => hx.elim h.2 (fun e => by omega)⟩, hb.block b hlt⟩⟩⟩
  other := fun X v done w w' c ⟨h1, h2, h3, h4, h5, p0, p1, p2, p3, p4, pl, pn, pc, h6, h7⟩ hc hco hs hk => ⟨Nat.le_trans h1 hs, h2, h3, h4, fun x hx => Nat.lt_of_lt_of_le (h5 x hx) hs, p0, p1, p2, p3, p4, pl, pn, pc, (hk _ (Ne.symm hco) (Array.getElem?_eq_some_iff.1 h6).1).trans h6, fun e he => (h7 e he).go ⟨hs, fun b hlt h => ⟨h, hk b (fun e => h.2 (by rw [e]; exact hc)) hlt⟩⟩⟩
  step := fun X v done e x w h _ hr => word1_any h hr
set_option maxHeartbeats 4000000 in
set_option maxRecDepth 100000 in
theorem word_ret (r : Rx) (s : ByteArray) (hz : s.size ≤ 100000) {ok ok' : Nat → Prop} (v : Value) (w : World) (h : ReAt ok w v r) :
    Calls Tryz.prog 17 #[v, .string s] w (TwPost ok' (wrdX r s.data.toList) w) := by
  obtain ⟨x0, x1, x2, x3, x4, xl, xn, xc, rfl⟩ := cells_re h; obtain ⟨W, hW⟩ : ∃ x, x = ((w.alloc (.cells #[.int .u8 x0, .int .u64 x1, .int .u64 x2, .int .u64 x3, .int .u64 x4, .slice xl xn xc] 27)).alloc zR).alloc zR := ⟨_, rfl⟩; (have hbW : Below w.heap.size w W := by rw [hW]; exact al3 w _ _ _); (have hO : W.heap[w.heap.size + 1 + 1]? = some zR := by rw [hW]; exact blk_at _ _ (by simp)); (have hR : W.heap[w.heap.size + 1]? = some zR := by rw [hW]; exact (Below.heap_alloc _ _ _ (by simp)).trans (blk_at _ _ (by simp))); (have hlt : w.heap.size + 1 + 1 < W.heap.size := by rw [hW]; simp); have hI : WVx (w.heap.size + 1 + 1) (w.heap.size + 1 + 1) (fun b => b = w.heap.size + 1 + 1) (.slice none 0 0) [] W := ⟨Nat.le_of_lt hlt, Nat.le_refl _, rfl, rfl, fun x hx => by rw [hx]; exact hlt, 0, 0, 0, 0, 0, none, 0, 0, hO, fun e he => by cases he⟩; have KE := Lib.hid (ech_any (tell_word (w.heap.size + 1 + 1) (w.heap.size + 1 + 1)) r s hz _ W hI (h.below hbW)); have HBW := Lib.hid hbW; have HW := Lib.hid hW; have HR := Lib.hid hR; clear hI hO hlt hbW hW h hR; obtain ⟨res, hres⟩ : ∃ z, z = wrdX r s.data.toList := ⟨_, rfl⟩; rw [← hres]; have HRES := Lib.hid hres; clear hres; go_enter Tryz.func17, Tryz.ntmps17; go_wp2_with fail; rw [← HW.out]; refine KE.out.mono ?_; rintro e w1 ⟨X, v, done, n, rfl, hI1, hb1, hq⟩; obtain ⟨_, _, _, _, _, p0, p1, p2, p3, p4, pl, pn, pc, h1, h2⟩ := hI1; obtain ⟨t1, t2⟩ := tells_wrd hq; have HR1 := Lib.hid ((hb1.block (w.heap.size + 1) (by omega)).trans HR.out); have HB1 := Lib.hid (HBW.out.trans (hb1.mono (by omega))); obtain ⟨c0, c1, c2, c3, c4, c5, f0, f1, f2, f3, f4, f5⟩ := cellsR HR1.out
  by_cases hn : n = 0
  · subst hn; obtain ⟨y, hy, t⟩ := t1 rfl; rw [← HRES.out] at t; subst t; have HV := Lib.hid (show ReAt (okN ok' w.heap.size) w1 _ y.rx from (h2 y hy).imp fun b _ h => .inr (by omega)); obtain ⟨b0, b1, b2, b3, b4, b5, -⟩ := cellsR h1; clear h1 h2 hq hb1 t1 t2 KE HW HBW HRES HR hy; rw [show ((0 : Nat) : Int) = 0 from rfl]; go_wp2; exact ret_tw (e := y) HR1.out HV.out HB1.out (by omega) Tryz.results17 rfl rfl rfl
  · have t := t2 hn; rw [← HRES.out] at t; subst t; (have hn2 : ((n : Int) == 0) = false := by simp; exact hn); clear h1 h2 hq hb1 t1 t2 KE HW HBW HRES HR; go_wp2; exact ret_tw0 HR1.out HB1.out (by omega) Tryz.results17 rfl rfl rfl
open Go.RowKit
def RwX (P : Nat → Prop) (B : Nat) (w : World) (v : Value) (ps : List Ex) : Prop := ∃ xs, w.ownsRow B 27 6 v ps.length xs ∧ RowVals (fun b => P b ∧ v.ownBlock ≠ some b) w xs (ps.map Ex.rx)
theorem RwX.below {P : Nat → Prop} {B : Nat} {w w' : World} {v : Value} {ps : List Ex} (h : RwX P B w v ps) (hb : Below w.heap.size w w') : RwX P B w' v ps := by
  obtain ⟨xs, h1, h2⟩ := h; exact ⟨xs, ownR_below h1 hb, h2.go (keptB hb _)⟩
theorem RwX.far {P : Nat → Prop} {B c : Nat} {w w' : World} {v : Value} {ps : List Ex} (h : RwX P B w v ps) (hP : ∀ b, P b → b ≠ c) (hv : v.ownBlock ≠ some c) (hs : w.heap.size ≤ w'.heap.size) (hk : ∀ b, b ≠ c → b < w.heap.size → w'.heap[b]? = w.heap[b]?) : RwX P B w' v ps := by
  obtain ⟨xs, h1, h2⟩ := h; exact ⟨xs, own_go h1 fun g hg hl => hk g (fun e => hv (by rw [hg, e])) hl, h2.go ⟨hs, fun b hl hb => ⟨hb, hk b (hP b hb.1) hl⟩⟩⟩
theorem RwX.push {P : Nat → Prop} {B g cap : Nat} {w wA w4 : World} {v : Value} {ps : List Ex} {e : Ex} {c0 c1 c2 c3 c4 c5 : Value} {xs : List Value} (hv : RowVals (fun b => P b ∧ v.ownBlock ≠ some b) w xs (ps.map Ex.rx)) (he : ReAt (fun b => P b ∧ v.ownBlock ≠ some b) w (.agg #[c0, c1, c2, c3, c4, c5]) e.rx) (hA : Below w.heap.size w wA) (hown : w4.ownsRow B 27 6 (.slice (some ⟨g, 0, none⟩) (ps.length + 1) cap) (ps.length + 1) (xs ++ [c0, c1, c2, c3, c4, c5])) (hgrow : wA.grownBy w4 v.ownBlock)
    (hat : v.ownBlock = some g ∨ g = wA.heap.size) : RwX P B w4 (.slice (some ⟨g, 0, none⟩) (ps.length + 1) cap) (ps ++ [e]) ∧ ReAt (fun b => P b ∧ (Value.slice (some ⟨g, 0, none⟩) (ps.length + 1) cap).ownBlock ≠ some b) w4 (.agg #[c0, c1, c2, c3, c4, c5]) e.rx := by
  have hkept : Kept (fun b => P b ∧ v.ownBlock ≠ some b) (fun b => P b ∧ (Value.slice (some ⟨g, 0, none⟩) (ps.length + 1) cap).ownBlock ≠ some b) w w4 := by
    refine ⟨Nat.le_trans hA.size hgrow.size, fun b h1 h2 => ⟨⟨h2.1, ?_⟩, ?_⟩⟩
    · intro e'; simp [Value.ownBlock] at e'
      rcases hat with h | h
      · exact h2.2 (by rw [← e']; exact h)
      · have := hA.size; omega
    · exact (hgrow.block b (Nat.lt_of_lt_of_le h1 hA.size) (fun e' => h2.2 e'.symm)).trans (hA.block b h1)
  refine ⟨⟨xs ++ [c0, c1, c2, c3, c4, c5], by simpa using hown, ?_⟩, he.go hkept⟩; rw [List.map_append]; exact (hv.go hkept).append ((RowVals.one he).go hkept)
def stG (ok : Nat → Prop) (B : Nat) (rr : Rx) (v : Value) (w : World) : Prop := ∃ (g : Nat) (p0 p1 p2 p3 p4 : Int) (pl : Option Addr) (pn pc : Nat), v = .pointer (some ⟨g, 0, none⟩) ∧ B ≤ g ∧ w.heap[g]? = some (.cells #[.int .u8 p0, .int .u64 p1, .int .u64 p2, .int .u64 p3, .int .u64 p4, .slice pl pn pc] 27) ∧ ∀ e : Ex, rr = e.rx → ReAt ok w (.agg #[.int .u8 p0, .int .u64 p1, .int .u64 p2, .int .u64 p3, .int .u64 p4, .slice pl pn pc]) rr
def rwkInv (gx : Nat) (x0 : Ex) (s : ByteArray) (w : World) (v y : Value) (wr : World) : Prop := ∃ (i : Nat) (done : List Ex) (cur : Ex) (l0 l1 l2 l3 l4 : Int) (ll : Option Addr) (ln lc : Nat), i ≤ s.size ∧ y = .int .i64 i ∧ RwX (fun b => b ≠ gx) w.heap.size wr v done ∧ wlkE x0 (s.data.toList.take i) = some done ∧ wrdE x0 (s.data.toList.take i) = some cur ∧ done.length = i + 1 ∧ wr.heap[gx]? = some (.cells #[.int .u8 l0, .int .u64 l1, .int .u64 l2, .int .u64 l3, .int .u64 l4, .slice ll ln lc] 27) ∧ ReAt (fun b => b ≠ gx ∧ v.ownBlock ≠ some b) wr (.agg #[.int .u8 l0, .int .u64 l1, .int .u64 l2, .int .u64 l3, .int .u64 l4, .slice ll ln lc]) cur.rx ∧ v.ownBlock ≠ some gx ∧ Below w.heap.size w wr
theorem stp_two (c : UInt8) {x : Ex} (hw : x.Wf) (hs : x.size ≤ 2000) (hn : nfE x = x) : (∃ y, stpE c x = some y ∧ stpX c x.rx = (y.rx, 0)) ∨ (stpE c x = none ∧ stpX c x.rx = (zeroX, 4)) := by
  rw [stpX_of hw hs, hn]
  cases stpE c x with
  | none => exact .inr ⟨rfl, rfl⟩
  | some y => exact .inl ⟨y, rfl, rfl⟩
theorem own_first {w : World} {B g : Nat} {c0 c1 c2 c3 c4 c5 : Value} (hB : B ≤ g) (hg : w.heap[g]? = some (.cells #[c0, c1, c2, c3, c4, c5] 27)) : w.ownsRow B 27 6 (.slice (some ⟨g, 0, none⟩) 1 1) 1 [c0, c1, c2, c3, c4, c5] :=
  ⟨rfl, .inr ⟨g, 1, #[c0, c1, c2, c3, c4, c5], rfl, hB, hg, Nat.le_refl _, by decide, rfl, rfl⟩⟩
def RwkPost (p : List Rx × Nat) (w : World) (e : Ending) (w' : World) : Prop := ∃ al cap, e = .returned (.tuple #[.slice al p.1.length cap, .int .i64 p.2]) ∧ p.1.length ≤ cap ∧ RowAt (fun _ => True) w' al p.1 ∧ Below w.heap.size w w'
set_option maxRecDepth 100000 in
set_option maxHeartbeats 8000000 in
theorem refWalk_any (r : Rx) (s : ByteArray) (hz : s.size ≤ 100000) {ok : Nat → Prop} (v : Value) (w : World) (hbig : r.size ≤ 8000000) (h : ReAt ok w v r) :
    Calls Tryz.prog 16 #[v, .string s] w (RwkPost (wlkX r s.data.toList) w) := by
  obtain ⟨x0, x1, x2, x3, x4, xl, xn, xc, rfl⟩ := cells_re h; have hb0 := al2 w (.cells #[.int .u8 x0, .int .u64 x1, .int .u64 x2, .int .u64 x3, .int .u64 x4, .slice xl xn xc] 27) (.cells #[] 27); have KM := Lib.hid (refMay_big r _ _ hbig (h.below hb0)); have HB0 := Lib.hid hb0; have X0 := Lib.hid (show ((w.alloc (.cells #[.int .u8 x0, .int .u64 x1, .int .u64 x2, .int .u64 x3, .int .u64 x4, .slice xl xn xc] 27)).alloc (.cells #[] 27)).heap[w.heap.size]? = some (.cells #[.int .u8 x0, .int .u64 x1, .int .u64 x2, .int .u64 x3, .int .u64 x4, .slice xl xn xc] 27) from (Below.heap_alloc _ _ _ (by simp)).trans (blk_new w _)); obtain ⟨res, hres⟩ : ∃ z, z = wlkX r s.data.toList := ⟨_, rfl⟩; rw [← hres]
  cases hm : mayR r with
  | false =>
    obtain rfl : res = ([], 1) := hres.trans (by unfold wlkX; rw [exX_no hm]); rw [hm] at KM; clear hm h hb0 hres X0; go_enter Tryz.func16, Tryz.ntmps16; go_wp2_with fail; refine KM.out.mono ?_; rintro e w1 ⟨rfl, hb1⟩; have B1 := Lib.hid (HB0.out.trans (hb1.mono HB0.out.size)); clear hb1 HB0 KM; go_wp2; go_ret2; exact ⟨_, 0, rfl, Nat.le_refl _, .inl rfl, B1.out⟩
  | true =>
    obtain ⟨e0, he, we, hs⟩ := may_ex h hm
    have hres2 : res = match wlkE (nfE e0) s.data.toList with
        | none => ([], 4)
        | some l => (l.map Ex.rx, 0) := hres.trans (by unfold wlkX; rw [← he, exX_of we hs]; rfl)
    have KO := Lib.hid fun W (hb : Below w.heap.size w W) => Kx.ref8of e0.size e0 (Nat.le_refl _) we (by omega) (Lo w.heap.size) _ W (by rw [he]; exact (h.imp fun b hb _ => hb).below hb); have x0s : (nfE e0).size ≤ 2000 := Nat.le_trans (nf_size e0) hs; have x0w := nf_wf e0 we; have x0n := nf_again e0 we; rw [hm] at KM; have HRES := Lib.hid hres2; generalize nfE e0 = z0 at *; clear hm h hb0 hres hres2 he we hs hbig; go_enter Tryz.func16, Tryz.ntmps16; go_wp2_with fail; refine KM.out.mono ?_; rintro e w1 ⟨rfl, hb1⟩; have B1 := Lib.hid (HB0.out.trans (hb1.mono HB0.out.size)); obtain ⟨c0, c1, c2, c3, c4, c5, -⟩ := cellsR ((hb1.block _ (by simp; omega)).trans X0.out); have K2 := Lib.hid (KO.out w1 B1.out); clear hb1 HB0 KM KO X0; go_wp2_with fail; refine K2.out.mono ?_; rintro e w2 ⟨v2, rfl, hv2, hb2⟩; obtain ⟨q0, q1, q2, q3, q4, ql, qn, qc, rfl⟩ := cells_re hv2; have B2 := Lib.hid (B1.out.trans (hb2.mono B1.out.size)); have HV := Lib.hid (show ReAt (fun b => b < w2.heap.size) w2 (.agg #[.int .u8 q0, .int .u64 q1, .int .u64 q2, .int .u64 q3, .int .u64 q4, .slice ql qn qc]) z0.rx from hv2.imp fun b hb _ => hb); clear hv2 hb2 K2 c0 c1 c2 c3 c4 c5 B1; go_wp2_with fail; obtain ⟨V, hV⟩ : ∃ V, V = (w2.alloc (.cells #[.int .u8 q0, .int .u64 q1, .int .u64 q2, .int .u64 q3, .int .u64 q4, .slice ql qn qc] 27)).alloc (.cells #[.int .u8 q0, .int .u64 q1, .int .u64 q2, .int .u64 q3, .int .u64 q4, .slice ql qn qc] 27) := ⟨_, rfl⟩; obtain ⟨gx, hgx⟩ : ∃ g, g = w2.heap.size := ⟨_, rfl⟩; have HBV := Lib.hid (show Below w.heap.size w V from B2.out.trans (by rw [hV]; exact (al2 w2 _ _).mono B2.out.size)); (have hXV : V.heap[gx]? = some (.cells #[.int .u8 q0, .int .u64 q1, .int .u64 q2, .int .u64 q3, .int .u64 q4, .slice ql qn qc] 27) := by rw [hV, hgx]; exact (Below.heap_alloc _ _ _ (by simp)).trans (blk_new _ _)); (have hYV : V.heap[gx + 1]? = some (.cells #[.int .u8 q0, .int .u64 q1, .int .u64 q2, .int .u64 q3, .int .u64 q4, .slice ql qn qc] 27) := by rw [hV, hgx]; exact blk_at _ _ (by simp)); have hws := B2.out.size
    have hRV : ReAt (fun b => b ≠ gx ∧ (Value.slice (some ⟨gx + 1, 0, none⟩) 1 1).ownBlock ≠ some b) V (.agg #[.int .u8 q0, .int .u64 q1, .int .u64 q2, .int .u64 q3, .int .u64 q4, .slice ql qn qc]) z0.rx := by
      rw [hV]; refine ReAt.below (w := w2) (HV.out.imp fun b hb _ => ⟨by omega, fun e => ?_⟩) (al2 w2 _ _); simp [Value.ownBlock] at e; omega
    have HIN : Hid (rwkInv gx z0 s w (.slice (some ⟨gx + 1, 0, none⟩) 1 1) (.int .i64 ((0 : Nat) : Int)) V) := Lib.hid ⟨0, [z0], z0, q0, q1, q2, q3, q4, ql, qn, qc, Nat.zero_le _, rfl, ⟨_, own_first (by omega) hYV, RowVals.one hRV⟩, rfl, rfl, rfl, hXV, hRV, by simp [Value.ownBlock], HBV.out⟩; rw [show ((0 : Nat) : Int) = 0 from rfl] at HIN; have HV1 := Lib.hid hV; (have hgs : w2.heap.size + 1 = gx + 1 := by omega); rw [← HV1.out, hgs, ← hgx]; (have hgw : w.heap.size ≤ gx := by omega); clear hV hgx hgs hXV hYV hRV HV HBV B2 HV1 hws
    go_loopw [8, 9] (fun v y wr => rwkInv gx z0 s w v y wr) (fun _ y _ => s.size - (intOf y).toNat)
    case atStart => exact HIN.out
    case round =>
      clear HIN; obtain ⟨i, done, cur, l0, l1, l2, l3, l4, ll, ln, lc, hi, rfl, hRw, hwl, hwd, hdl, hXl, hRl, hvx, hbr⟩ := hrel; generalize u8 = v at *; have HRW := Lib.hid hRw; have HWL := Lib.hid hwl; have HWD := Lib.hid hwd; have HDL := Lib.hid hdl; have HXL := Lib.hid hXl; have HRL := Lib.hid hRl; have HBR := Lib.hid hbr; have HVX := Lib.hid hvx; clear hRw hwl hwd hdl hXl hRl hbr hvx
      by_cases hlt : i < s.size
      · obtain ⟨cw, csz, cn, -⟩ := wrd_fit _ HWD.out x0w x0s x0n; have HSN := Lib.hid (wlk_snoc _ s[i] HWL.out HWD.out); have HWA := Lib.hid (wrd_append (s.data.toList.take i) [s[i]] z0); have HDD := Lib.hid (wlk_dead (c := s[i]) (t := s.data.toList.drop (i + 1)) HWD.out); rw [← take_byte s i hlt] at HSN HWA; rw [← cut_byte s i hlt] at HDD; have KL0 := Lib.hid fun x (hx : Below wr.heap.size wr x) => refStep_any s[i] cur.rx (.agg #[.int .u8 l0, .int .u64 l1, .int .u64 l2, .int .u64 l3, .int .u64 l4, .slice ll ln lc]) x (by rw [Ex.size_rx]; omega) (HRL.out.below hx); have HLIM := Lib.hid (stp_two s[i] cw csz cn); obtain ⟨⟨rr, rn⟩, hp⟩ : ∃ p, p = stpX s[i] cur.rx := ⟨_, rfl⟩; rw [← hp] at KL0 HLIM; have KL := KL0; have CL := Lib.hid fun x (hx : Below wr.heap.size wr x) => cellsR ((hx.block gx (Array.getElem?_eq_some_iff.1 HXL.out).1).trans HXL.out); (have q1 : (i : Int) < (s.size : Int) := by omega); clear hp KL0 cw csz cn; go_wp2_with fail; refine wp_region_orderS 9 (fun j => [0, 0, 0, 0, 0, 0, 0, 1, 0, 2, 1].getD j 0) (fun j => ([SP.eq (.agg #[.int .u8 l0, .int .u64 l1, .int .u64 l2, .int .u64 l3, .int .u64 l4, .slice ll ln lc]), SP.eq (.string s), SP.eq (.int .i64 i), SP.eq (.int .u8 (s[i]'hlt).toNat), SP.tw (okN (fun b => b ≠ gx ∧ v.ownBlock ≠ some b) wr.heap.size) (rr, rn), SP.tw (okN (fun b => b ≠ gx ∧ v.ownBlock ≠ some b) wr.heap.size) (rr, rn), SP.rw9 (okN (fun b => b ≠ gx ∧ v.ownBlock ≠ some b) wr.heap.size) rr, SP.eq (.int .i64 rn), SP.vz wr.heap.size, SP.free, SP.eq (.int .i64 rn)] : List SP).getD j SP.free) (echPsi rn) (OmS 10 (stG (okN (fun b => b ≠ gx ∧ v.ownBlock ≠ some b) wr.heap.size) wr.heap.size rr)) ?_ (omS_kept _ _ (by kernel_rfl)) (by kernel_rfl) (by kernel_rfl) ⟨?_, ?_, ?_, ?_, ?_, ?_, ?_, ?_, ?_, ?_, ?_, trivial⟩ ?_
        · intro j x w h
          match j, h with
          | 0, _ => trivial
          | 1, _ => trivial
          | 2, _ => trivial
          | 3, _ => trivial
          | 4, _ => trivial
          | 5, h => obtain ⟨p0, p1, p2, p3, p4, pl, pn, pc, rfl, _⟩ := h; exact ⟨_, rfl⟩
          | 6, _ => trivial
          | 7, h => exact h
          | 8, _ => trivial
          | 9, _ => trivial
          | 10, h => exact h
          | n + 11, _ => trivial
        · intro a x K out get hb hK; rw [if_pos (wanted_none rfl)]; have o7 : a.tmps[7]? = some (.pointer (some ⟨gx, 0, none⟩)) := out 7 (by kernel_rfl); clear out get; obtain ⟨c0, c1, c2, c3, c4, c5, -⟩ := CL.out x hb; go_simp; exact hK _ _ rfl (Below.refl _ _)
        · intro a x K out get hb hK; rw [if_pos (wanted_none rfl)]; have o1 : a.tmps[1]? = some (.string s) := out 1 (by kernel_rfl); clear out get; go_simp; exact hK _ _ rfl (Below.refl _ _)
        · intro a x K out get hb hK; rw [if_pos (wanted_none rfl)]; have o9 : a.tmps[9]? = some (.int .i64 i) := out 9 (by kernel_rfl); clear out get; go_simp; exact hK _ _ rfl (Below.refl _ _)
        · intro a x K out get hb hK; rw [if_pos (wanted_none rfl)]; obtain ⟨y29, hy29, rfl⟩ := get 1 _ _ rfl rfl (by kernel_rfl); obtain ⟨y30, hy30, rfl⟩ := get 2 _ _ rfl rfl (by kernel_rfl); clear out get; have hix : (0 : Int) ≤ (i : Int) ∧ (i : Int) < (s.size : Int) := ⟨by omega, by omega⟩; go_simp; exact hK _ _ rfl (Below.refl _ _)
        · intro a x K out get hb hK; rw [if_pos (wanted_none rfl)]; obtain ⟨y28, hy28, rfl⟩ := get 0 _ _ rfl rfl (by kernel_rfl); obtain ⟨y31, hy31, rfl⟩ := get 3 _ _ rfl rfl (by kernel_rfl); clear out get; go_simp; refine (KL.out x hb).mono ?_; rintro e w2 ⟨v2, rfl, hv2, hb2⟩; exact hK _ _ (TwV.of hv2 fun _ _ h => okN_up hb.size h) hb2
        · intro a x K out get hb hK; rw [if_pos (wanted_none rfl)]; obtain ⟨y32, hy32, ⟨p0, p1, p2, p3, p4, pl, pn, pc, rfl, hr32⟩⟩ := get 4 _ _ rfl rfl (by kernel_rfl); clear out get; go_simp; exact hK _ _ ⟨p0, p1, p2, p3, p4, pl, pn, pc, rfl, hr32⟩ (Below.refl _ _)
        · intro a x K out get hb hK; rw [if_pos (wanted_none rfl)]; obtain ⟨y27, hy27, ⟨p0, p1, p2, p3, p4, pl, pn, pc, rfl, hr27⟩⟩ := get 5 _ _ rfl rfl (by kernel_rfl); clear out get; go_simp; exact hK _ _ ⟨p0, p1, p2, p3, p4, pl, pn, pc, rfl, hr27⟩ (Below.refl _ _)
        · intro a x K out get hK; rw [if_pos (wanted_none rfl)]; obtain ⟨y27, hy27, ⟨z27, rfl⟩⟩ := get 5 _ _ rfl rfl (by kernel_rfl); clear out get; go_simp; exact hK _ rfl (fun _ => rfl)
        · intro a x K out get hb hK; rw [if_pos (wanted_none rfl)]; clear out get; go_simp; exact hK _ _ ⟨_, rfl, hb.size, by simp, blk_new _ _⟩ (bel_al _ _)
        · intro a x K out get hb hK; rw [if_pos (wanted_none rfl)]; obtain ⟨y10, hy10, ⟨g9, rfl, hg1, hg2, hz⟩⟩ := get 8 _ _ rfl rfl (by kernel_rfl); obtain ⟨y33, hy33, ⟨p0, p1, p2, p3, p4, pl, pn, pc, rfl, hr33⟩⟩ := get 6 _ _ rfl rfl (by kernel_rfl); obtain ⟨c0, c1, c2, c3, c4, c5, f0, f1, f2, f3, f4, f5⟩ := cellsR hz; have HG := Lib.hid (show g9 < x.heap.size from hg2); have HR := Lib.hid hr33; have HZ := Lib.hid hz; clear out get hg2 hr33 hz; go_simp; exact hK _ ⟨_, hy10, g9, p0, p1, p2, p3, p4, pl, pn, pc, rfl, hg1, putR HZ.out _ _ _ _ _ _, fun e he => by subst he; exact (put_ex HZ.out HR.out).2⟩ (putB hb hg1 _ _ _ _ _ _)
        · intro a x K out get hK; rw [if_pos (wanted_none rfl)]; obtain ⟨y34, hy34, rfl⟩ := get 7 _ _ rfl rfl (by kernel_rfl); clear out get; go_simp; exact hK _ rfl (fun _ => rfl)
        refine ao_finS (isD := fun s => (decide (27 ≤ s) && decide (s ≤ 34)) || decide (s = 10) || decide (s = 11)) (by decide) (by kernel_rfl) ?_; intro f x hv hom hb; have e11 : f 11 = .int .i64 rn := hv 10 _ _ rfl rfl; obtain ⟨v9, h9, g9, p0, p1, p2, p3, p4, pl, pn, pc, rfl, hg9, hX9, hR9⟩ := hom; (have e10 : f 10 = .pointer (some ⟨g9, 0, none⟩) := by simpa [frm] using h9); clear hv h9; generalize hF : (Act.mk (List.toArray (frm f _ 0 _)) _) = fr; simp [frm] at hF; rw [e11, e10] at hF; subst hF; generalize f 27 = u27 at *; generalize f 28 = u28 at *; generalize f 29 = u29 at *; generalize f 30 = u30 at *; generalize f 31 = u31 at *; generalize f 32 = u32 at *; generalize f 33 = u33 at *; generalize f 34 = u34 at *; clear e10 e11 f; have hlw : gx < wr.heap.size := (Array.getElem?_eq_some_iff.1 HXL.out).1; have HBX := Lib.hid hb
        rcases HLIM.out with ⟨nxt, hs1, hs3⟩ | ⟨hs1, hs3⟩
        · injection hs3 with hs5 hs6; subst hs6; subst hs5; obtain ⟨xs, hxs1, hxs2⟩ := (HRW.out.below hb).far (w' := putW x gx (.int .u8 p0) (.int .u64 p1) (.int .u64 p2) (.int .u64 p3) (.int .u64 p4) (.slice pl pn pc)) (fun b hb => hb) HVX.out (by rw [putW_size]; exact Nat.le_refl _) (fun b h1 _ => putW_other _ _ _ _ _ _ _ _ h1); have howl := own_lt' HRW.out.choose_spec.1; have hsx := hb.size
          have hvq : ReAt (fun b => b ≠ gx ∧ v.ownBlock ≠ some b) (putW x gx (.int .u8 p0) (.int .u64 p1) (.int .u64 p2) (.int .u64 p3) (.int .u64 p4) (.slice pl pn pc)) (.agg #[.int .u8 p0, .int .u64 p1, .int .u64 p2, .int .u64 p3, .int .u64 p4, .slice pl pn pc]) nxt.rx := by
            refine (hR9 nxt rfl).go ⟨by rw [putW_size]; exact Nat.le_refl _, fun b _ h => ?_⟩
            have hbg : b ≠ gx := fun e => by
              rcases h with h | h
              · exact h.1 e
              · omega
            refine ⟨⟨hbg, fun e => ?_⟩, putW_other _ _ _ _ _ _ _ _ hbg⟩
            rcases h with h | h
            · exact h.2 e
            · have := (howl b e).2; omega
          have hpx := putR ((hb.block gx hlw).trans HXL.out) (.int .u8 p0) (.int .u64 p1) (.int .u64 p2) (.int .u64 p3) (.int .u64 p4) (.slice pl pn pc); have hys : (putW x gx (.int .u8 p0) (.int .u64 p1) (.int .u64 p2) (.int .u64 p3) (.int .u64 p4) (.slice pl pn pc)).heap.size = x.heap.size := putW_size _ _ _ _ _ _ _ _; have hbp : Below w.heap.size w (putW x gx (.int .u8 p0) (.int .u64 p1) (.int .u64 p2) (.int .u64 p3) (.int .u64 p4) (.slice pl pn pc)) := putB (HBR.out.trans (hb.mono HBR.out.size)) hgw (.int .u8 p0) (.int .u64 p1) (.int .u64 p2) (.int .u64 p3) (.int .u64 p4) (.slice pl pn pc); have hsc := six_cells (putW x gx (.int .u8 p0) (.int .u64 p1) (.int .u64 p2) (.int .u64 p3) (.int .u64 p4) (.slice pl pn pc)) (.int .u8 p0) (.int .u64 p1) (.int .u64 p2) (.int .u64 p3) (.int .u64 p4) (.slice pl pn pc); have hAA := bel_al (putW x gx (.int .u8 p0) (.int .u64 p1) (.int .u64 p2) (.int .u64 p3) (.int .u64 p4) (.slice pl pn pc)) (.cells #[.int .u8 p0, .int .u64 p1, .int .u64 p2, .int .u64 p3, .int .u64 p4, .slice pl pn pc] 27); (have hwa : ((putW x gx (.int .u8 p0) (.int .u64 p1) (.int .u64 p2) (.int .u64 p3) (.int .u64 p4) (.slice pl pn pc)).alloc (.cells #[.int .u8 p0, .int .u64 p1, .int .u64 p2, .int .u64 p3, .int .u64 p4, .slice pl pn pc] 27)).heap.size = x.heap.size + 1 := by rw [show ((putW x gx (.int .u8 p0) (.int .u64 p1) (.int .u64 p2) (.int .u64 p3) (.int .u64 p4) (.slice pl pn pc)).alloc (.cells #[.int .u8 p0, .int .u64 p1, .int .u64 p2, .int .u64 p3, .int .u64 p4, .slice pl pn pc] 27)).heap.size = (putW x gx (.int .u8 p0) (.int .u64 p1) (.int .u64 p2) (.int .u64 p3) (.int .u64 p4) (.slice pl pn pc)).heap.size + 1 from by simp, hys]); rw [hys] at hsc; obtain ⟨c0, c1, c2, c3, c4, c5, -⟩ := cellsR hX9; obtain ⟨d0, d1, d2, d3, d4, d5, f0, f1, f2, f3, f4, f5⟩ := cellsR ((hb.block gx hlw).trans HXL.out); obtain ⟨i0, y0, hi0, hz0, hz1, hz2, hz3⟩ := infoR2; have hz2' := Lib.hid hz2; unfold putW at hxs1 hxs2 hvq hpx hys hbp hsc hAA hwa; have HWW := Lib.hid hwa; have HOW := Lib.hid hxs1; have HVA := Lib.hid hxs2; have HVQ := Lib.hid hvq; have HPX := Lib.hid hpx; have HYS := Lib.hid hys; have HBP := Lib.hid hbp; have HSC := Lib.hid hsc; have HAA := Lib.hid hAA; have HST := Lib.hid hs1; (have hdl2 : done.length ≤ 100001 := by have := HDL.out; omega); obtain ⟨al, vc, rfl⟩ : ∃ al c, v = .slice al done.length c := own_form HOW.out
          have H : ∀ g' cap' w4, w4.ownsRow w.heap.size 27 6 (.slice (some ⟨g', 0, none⟩) (done.length + 1) cap') (done.length + 1) (xs ++ [.int .u8 p0, .int .u64 p1, .int .u64 p2, .int .u64 p3, .int .u64 p4, .slice pl pn pc]) → World.grownBy _ w4 (Value.slice al done.length vc).ownBlock → ((Value.slice al done.length vc).ownBlock = some g' ∨ g' = x.heap.size + 1) → Hid (rwkInv gx z0 s w (.slice (some ⟨g', 0, none⟩) (done.length + 1) cap') (.int .i64 ((i + 1 : Nat) : Int)) w4) := fun g' cap' w4 hown hgrow hat => by
            obtain ⟨hp1, hp2⟩ := RwX.push HVA.out HVQ.out HAA.out hown hgrow (by rw [HWW.out]; exact hat); have hgl := hgrow.block gx (by have := HAA.out.size; have := HYS.out; omega) (fun e => HVX.out e.symm); refine Lib.hid ⟨i + 1, done ++ [nxt], nxt, p0, p1, p2, p3, p4, pl, pn, pc, hlt, rfl, hp1, by rw [HSN.out, HST.out]; rfl, by rw [HWA.out, HWD.out]; simp only [Option.bind_some, wrdE, HST.out], by rw [List.length_append, HDL.out]; rfl, (hgl.trans (HAA.out.block gx (by have := HYS.out; omega))).trans HPX.out, hp2, fun e => ?_, ?_⟩
            · simp [Value.ownBlock] at e
              rcases hat with h | h
              · exact HVX.out (by rw [h, e])
              · omega
            · exact (HBP.out.trans (HAA.out.mono HBP.out.size)).grown hgrow (Nat.le_trans HBP.out.size HAA.out.size) (fun g hg => (howl g hg).1)
          have HH := Lib.hid H; (have hsw : w.heap.size ≤ x.heap.size + 1 := by have := HBP.out.size; have := HYS.out; omega); clear hwa hxs1 hxs2 hvq hpx hys hbp hsc hAA HPX HBP HST HSN HWA HWD HDD HWL HXL HRL HRW HLIM KL hR9 hX9 hb hs1 HVQ HVA HDL HYS hz2 H howl hlw CL; rw [show (((0 : Nat)) : Int) = 0 from rfl]; go_wp2_with (at_builtin; refine wpList_append_lies _ rfl _ _ 25 rfl w.heap.size 27 i0 y0 6 64 Tryz.underlying25 hi0 hz0 hz1 hz2'.out hz3 (by decide) _ _ _ rfl (HOW.out.alloc _) ⟨x.heap.size, 0, none⟩ 1 1 [.int .u8 p0, .int .u64 p1, .int .u64 p2, .int .u64 p3, .int .u64 p4, .slice pl pn pc] rfl rfl ?c1 ?c2 (by decide) ?c3 ?c4 ?c5 (x.heap.size + 1) ?c6 ?_)
          case c1 => exact HSC.out
          case c2 => intro u hu; simp at hu; rcases hu with rfl | rfl | rfl | rfl | rfl | rfl <;> rfl
          case c3 => unfold maxLen; omega
          case c4 => omega
          case c5 => rw [HWW.out]; exact hsw
          case c6 => exact HWW.out
          intro g' cap' w4 hown hgrow hat _; have HF := Lib.hid (HH.out g' cap' w4 hown hgrow hat); clear HH hown hgrow hat HOW HSC HAA HWW; go_wp2; exact ⟨by simpa using HF.out.out, by simp [intOf]; omega⟩
        · injection hs3 with hs5 hs6; subst hs6; obtain rfl : res = ([], 4) := HRES.out.trans (by rw [HDD.out hs1]); have HBF := Lib.hid (HBR.out.trans (HBX.out.mono HBR.out.size)); clear hs1 hs5 hR9 hX9 HLIM KL hb HXL HRL HWL HWD HSN HWA HDD HDL HRES; rw [show (((4 : Nat)) : Int) = 4 from rfl]; go_wp2; go_ret2; exact ⟨_, 0, rfl, Nat.le_refl _, .inl rfl, HBF.out⟩
      · (have he : i = s.size := by omega); subst he; have hta : s.data.toList.take s.size = s.data.toList := List.take_of_length_le (by rw [Array.length_toList]; exact Nat.le_refl _); have hwk := HWL.out; rw [hta] at hwk; obtain rfl : res = (done.map Ex.rx, 0) := HRES.out.trans (by rw [hwk]); obtain ⟨xs, h1, h2⟩ := HRW.out; obtain ⟨al, cap, rfl, e2, e3⟩ := row_of_own (l := done.map Ex.rx) (by rw [List.length_map]; exact h1) h2; have HR := Lib.hid (show RowAt (fun _ => True) wr al (done.map Ex.rx) from e3.imp fun b _ h => trivial); rw [List.length_map] at e2; (have q1 : ¬ (s.size : Int) < (s.size : Int) := by omega); clear hta hwk HWL HWD HDL HXL HRL HRW HVX hlt h1 h2 e3 HRES; rw [show (done.map Ex.rx).length = done.length from List.length_map ..]; go_wp2; go_ret2; exact ⟨al, cap, by simp, by simpa using e2, HR.out, HBR.out⟩
open Go.RowKit
def ex9 : Ex := .star (.seq (.cls (rngW 97 97)) (.cls (rngW 98 98)))
theorem px_9 : PX .alt [40, 97, 98, 41, 42] (.ok ex9 []) :=
  PX.altOne (PX.rowOne (PX.round (fun _ h => by injection h with h1 h2; exact absurd h1 (by decide)) (PX.altOne (PX.rowMore (ex_atom 97 _ rfl (by decide) (by decide) (by decide)) rfl rfl (PX.rowOne (ex_atom 98 _ rfl (by decide) (by decide) (by decide)) rfl rfl)) (fun _ h => by injection h with h1 h2; exact absurd h1 (by decide)))) rfl rfl) (notAt_nil _)
theorem rd_9 : rdOf ⟨#[40, 97, 98, 41, 42]⟩ = .ok ex9 := by
  rw [rdOf_px (s := ⟨#[40, 97, 98, 41, 42]⟩) px_9]; unfold topR; rw [if_neg (by decide)]; simp only [if_true]; rw [if_pos (by decide)]
theorem has_ne9 {s : Ws} {n : Nat} (h : s.has n = true) : s ≠ Ws.nil := fun e => by rw [e, Ws.has_nil] at h; cases h
theorem wf_9 : ex9.Wf := ⟨⟨ofN_ok _, has_ne9 (n := 97) (by decide +kernel)⟩, ofN_ok _, has_ne9 (n := 98) (by decide +kernel)⟩
theorem wrd_9 : wrdE (nfE ex9) [97, 98] = some ex9 := by kernel_rfl
theorem wrdX_9 : wrdX ex9.rx [97, 98] = (ex9.rx, 0) := by
  unfold wrdX; rw [exX_of wf_9 (by decide)]; simp only [wrd_9]
theorem text_9 : textX ex9.rx = [40, 97, 98, 41, 42] := by
  rw [textX_yes (by rw [mayE wf_9]; decide)]
  kernel_rfl
def Awake9C : Prop := ∀ (w : World), Tab w → Calls Tryz.prog 9 #[] w fun x w' => x = .returned (.bool true) ∧ Below w.heap.size w w'
set_option maxHeartbeats 4000000 in
set_option maxRecDepth 100000 in
theorem awake9_any (hRead : ReadC) (hText : TextC) : Awake9C := by
  intro w hT; have K1 := Lib.hid (hRead ⟨#[40, 97, 98, 41, 42]⟩ w (by decide)); rw [rd_9] at K1; have KW := Lib.hid fun (ok : Nat → Prop) v W (h : ReAt ok W v ex9.rx) => word_ret (ok' := fun _ => True) ex9.rx ⟨#[97, 98]⟩ (by decide) v W h; rw [show (⟨#[97, 98]⟩ : ByteArray).data.toList = [97, 98] from rfl, wrdX_9] at KW; have KT := Lib.hid fun (ok : Nat → Prop) v W (hb : Below w.heap.size w W) (h : ReAt ok W v ex9.rx) => hText ok ex9.rx v W (hT.go hb) (by decide) h; rw [text_9] at KT; clear hT; go_enter Tryz.func9, Tryz.ntmps9; go_wp2_with fail; refine K1.out.mono ?_; rintro e w1 ⟨hb1, v, rfl, hv⟩; obtain ⟨x0, x1, x2, x3, x4, xl, xn, xc, rfl⟩ := cells_re hv; have hal := bel_al w1 (.cells #[.int .u8 x0, .int .u64 x1, .int .u64 x2, .int .u64 x3, .int .u64 x4, .slice xl xn xc] 27); have HV := Lib.hid (hv.below hal); have HB := Lib.hid (hb1.trans (hal.mono hb1.size)); clear hal hb1 hv K1; go_wp2_with fail; refine (KW.out _ _ _ HV.out).mono ?_; rintro e w2 ⟨v2, rfl, hv2, hb2⟩; obtain ⟨p0, p1, p2, p3, p4, pl, pn, pc, rfl⟩ := cells_re hv2; have hal := bel_al w2 (.cells #[.int .u8 p0, .int .u64 p1, .int .u64 p2, .int .u64 p3, .int .u64 p4, .slice pl pn pc] 27); have HV2 := Lib.hid (hv2.below hal); have HB1 := Lib.hid (HB.out.trans (hb2.mono HB.out.size)); have HB2 := Lib.hid (HB1.out.trans (hal.mono HB1.out.size)); clear hal hb2 hv2 HV HB KW; go_wp2_with fail; refine (KT.out _ _ _ HB2.out HV2.out).mono ?_; rintro e w3 ⟨rfl, hb3⟩; have HB3 := Lib.hid (HB2.out.trans (hb3.mono HB2.out.size)); clear hb3 HV2 HB2 HB1 KT; go_wp2; go_ret; exact ⟨rfl, HB3.out⟩
open Go.RowKit
def Bx9 (w W : World) (X : Obj) : Prop := W.heap[w.heap.size]? = some X ∧ Below w.heap.size w W
theorem Bx9.go {w W W' : World} {X : Obj} (h : Bx9 w W X) (hb : Below W.heap.size W W') : Bx9 w W' X := ⟨(hb.block _ (Array.getElem?_eq_some_iff.1 h.1).1).trans h.1, h.2.trans (hb.mono h.2.size)⟩
theorem Bx9.new (w : World) (X : Obj) : Bx9 w (w.alloc X) X := ⟨blk_new w _, bel_al w X⟩
def Vr9 (W : World) (g : Nat) (X : Obj) (v : Value) (r : Rx) : Prop := W.heap[g]? = some X ∧ ReAt (fun _ => True) W v r
theorem Vr9.go {W W' : World} {g : Nat} {X : Obj} {v : Value} {r : Rx} (h : Vr9 W g X v r) (hb : Below W.heap.size W W') : Vr9 W' g X v r := ⟨(hb.block _ (Array.getElem?_eq_some_iff.1 h.1).1).trans h.1, h.2.below hb⟩
theorem Vr9.new {ok : Nat → Prop} {W : World} {X : Obj} {v : Value} {r : Rx} (h : ReAt ok W v r) : Vr9 (W.alloc X) W.heap.size X v r := ⟨blk_new W _, (h.below (bel_al W X)).imp fun _ _ _ => trivial⟩
theorem Vr9.lt {W : World} {g : Nat} {X : Obj} {v : Value} {r : Rx} (h : Vr9 W g X v r) : g < W.heap.size := (Array.getElem?_eq_some_iff.1 h.1).1
theorem great9 {r : Rx} {n : Nat} (h : r.size ≤ 1000000000 → false = greatB r n) (hs : r.size ≤ 1048576) : r.size ≤ n := by
  have := (h (by omega)).symm; simp [greatB] at this; omega
theorem same9 (r : Rx) : sameR r r = true := (sameR_iff _ _).2 rfl
open Go.RowKit
theorem ex_of9 {r : Rx} {e : Ex} (hx : exX r = some e) : e.rx = r ∧ e.Wf ∧ e.size ≤ 2000 := by
  classical
  unfold exX at hx
  split at hx
  · rename_i h
    injection hx with hx; have := Classical.choose_spec h; rw [hx] at this; exact this
  · cases hx
theorem wlk_wrd (r : Rx) (s : List UInt8) : (wrdX r s).2 = (wlkX r s).2 ∧ ((wlkX r s).2 ≠ 0 → (wrdX r s).1 = zeroX) ∧ ((wlkX r s).2 = 0 → ∃ m, (wlkX r s).1.length = m + 1 ∧ (wlkX r s).1[m]? = some (wrdX r s).1) := by
  unfold wrdX wlkX
  cases hx : exX r with
  | none => exact ⟨rfl, fun _ => rfl, fun h => by cases h⟩
  | some e =>
    obtain ⟨_, he, hs⟩ := ex_of9 hx; simp only
    cases hw : wlkE (nfE e) s with
    | none =>
      have := (wlk_none s).1 hw; simp only [this]; exact ⟨trivial, fun _ => trivial, fun h => by cases h⟩
    | some l =>
      obtain ⟨h1, _, _, h4⟩ := wlk_some s hw (nf_wf e he) (Nat.le_trans (nf_size e) hs) (nf_again e he); (have hl : l.length - 1 < l.length := by omega); rw [List.getElem?_eq_getElem hl] at h4; simp only [h4]; exact ⟨trivial, fun h => absurd rfl h, fun _ => ⟨l.length - 1, by rw [List.length_map]; omega, by rw [List.getElem?_map, List.getElem?_eq_getElem hl]; rfl⟩⟩
theorem wlk_len (r : Rx) (s : ByteArray) : (wlkX r s.data.toList).1.length ≤ s.size + 1 := by
  unfold wlkX
  cases hx : exX r with
  | none => exact Nat.zero_le _
  | some e =>
    obtain ⟨_, he, hs⟩ := ex_of9 hx; simp only
    cases hw : wlkE (nfE e) s.data.toList with
    | none => exact Nat.zero_le _
    | some l =>
      obtain ⟨h1, _⟩ := wlk_some _ hw (nf_wf e he) (Nat.le_trans (nf_size e) hs) (nf_again e he); simp only [List.length_map]; rw [h1, dlen]; exact Nat.le_refl _
set_option maxHeartbeats 8000000 in
set_option maxRecDepth 100000 in
theorem derivWalks_walk (hRead : ReadC) (hText : TextC) {ok : Nat → Prop} (r : Rx) (v : Value) (s : ByteArray) (w : World) (hT : Tab w) (h : ReAt ok w v r) (hsz : r.size ≤ 1048576) :
    Calls Tryz.prog 4 #[v, .string s] w fun e w' => e = .returned (.bool true) ∧ Below w.heap.size w w' := by
  obtain ⟨x0, x1, x2, x3, x4, xl, xn, xc, rfl⟩ := cells_re h; have HR := Lib.hid h; have G1 := Lib.hid fun W (hb : Below w.heap.size w W) => great_any r 40 _ W (h.below hb) (by decide); have HM := Lib.hid (fun h => great9 (r := r) (n := 40) h hsz); have KA := Lib.hid fun W (hb : Below w.heap.size w W) => awake9_any hRead hText W (hT.go hb); have BX := Lib.hid (Bx9.new w (.cells #[.int .u8 x0, .int .u64 x1, .int .u64 x2, .int .u64 x3, .int .u64 x4, .slice xl xn xc] 27)); have K1 := Lib.hid fun (hz : s.size ≤ 12) W (hb : Below w.heap.size w W) => walk_any r s (by omega) _ W (h.below hb); have K2 := Lib.hid fun (hz : s.size ≤ 12) W (hb : Below w.heap.size w W) => refWalk_any r s (by omega) _ W (by omega) (h.below hb); have K3 := Lib.hid fun (hz : s.size ≤ 12) W (hb : Below w.heap.size w W) => word_ret (ok' := fun _ => True) r s (by omega) _ W (h.below hb); have HWW := Lib.hid (wlk_wrd r s.data.toList); have HLL := Lib.hid (wlk_len r s); obtain ⟨⟨L, n1⟩, hp1⟩ : ∃ p, p = wlkX r s.data.toList := ⟨_, rfl⟩; rw [← hp1] at K1 K2 HWW HLL; obtain ⟨⟨r2, n2⟩, hp2⟩ : ∃ p, p = wrdX r s.data.toList := ⟨_, rfl⟩; rw [← hp2] at K3 HWW; clear hp1 hp2; clear hRead hText hT h; go_enter Tryz.func4, Tryz.ntmps4; go_wp2_with fail; refine (G1.out _ BX.out.2).mono ?_; rintro e w' ⟨⟨p, rfl, hp⟩, hb⟩; replace BX := Lib.hid (BX.out.go hb); have HP := Lib.hid hp; clear hb hp
  cases p with
  | true =>
    go_wp2_with fail; refine (KA.out _ BX.out.2).mono ?_; rintro e w' ⟨rfl, hb⟩; have HE := Lib.hid (BX.out.2.trans (hb.mono BX.out.2.size)); clear hb; go_wp2; go_ret; exact ⟨rfl, HE.out⟩
  | false =>
    clear HM HP HR G1
    by_cases hs6 : s.size ≤ 12
    · (have q1 : ¬ (12 : Int) < (s.size : Int) := by omega); obtain ⟨c0, c1, c2, c3, c4, c5, -⟩ := cellsR BX.out.1; have lx := (Array.getElem?_eq_some_iff.1 BX.out.1).1; go_wp2_with fail; clear c0 c1 c2 c3 c4 c5 lx; refine (K1.out hs6 _ BX.out.2).mono ?_; rintro e Wa ⟨al, cap, rfl, _, hrow, hb⟩; have HRA := Lib.hid (hrow.imp (ok' := fun _ => True) fun _ _ _ => trivial); replace BX := Lib.hid (BX.out.go hb); clear hb hrow; obtain ⟨c0, c1, c2, c3, c4, c5, -⟩ := cellsR BX.out.1; have lx := (Array.getElem?_eq_some_iff.1 BX.out.1).1; go_wp2_with fail; clear c0 c1 c2 c3 c4 c5 lx; refine (K2.out hs6 _ BX.out.2).mono ?_; rintro e Wb ⟨al2, cap2, rfl, hcap2, hrow2, hb⟩; replace HRA := Lib.hid (HRA.out.below hb); have HRB := Lib.hid hrow2; replace BX := Lib.hid (BX.out.go hb); clear hb hrow2; obtain ⟨c0, c1, c2, c3, c4, c5, -⟩ := cellsR BX.out.1; have lx := (Array.getElem?_eq_some_iff.1 BX.out.1).1; go_wp2_with fail; clear c0 c1 c2 c3 c4 c5 lx; refine (K3.out hs6 _ BX.out.2).mono ?_; rintro e Wc ⟨vc, rfl, hv, hb⟩; obtain ⟨y0, y1, y2, y3, y4, yl, yn, yc, rfl⟩ := cells_re hv; have HVc := Lib.hid hv; replace HRA := Lib.hid (HRA.out.below hb); replace HRB := Lib.hid (HRB.out.below hb); replace BX := Lib.hid (BX.out.go hb); clear hb hv; have hnn : n2 = n1 := HWW.out.1; (have hLl : L.length < 2199023255552 := by have := HLL.out; omega); subst hnn; obtain ⟨c0, c1, c2, c3, c4, c5, -⟩ := cellsR BX.out.1; have lx := (Array.getElem?_eq_some_iff.1 BX.out.1).1; go_wp2_with fail; clear c0 c1 c2 c3 c4 c5 lx; obtain ⟨Vc, hV⟩ : ∃ V, V = Wc.alloc (.cells #[.int .u8 y0, .int .u64 y1, .int .u64 y2, .int .u64 y3, .int .u64 y4, .slice yl yn yc] 27) := ⟨_, rfl⟩; obtain ⟨gc, hg⟩ : ∃ g, g = Wc.heap.size := ⟨_, rfl⟩; have hb := bel_al Wc (.cells #[.int .u8 y0, .int .u64 y1, .int .u64 y2, .int .u64 y3, .int .u64 y4, .slice yl yn yc] 27); have Fc := Lib.hid (Vr9.new (X := .cells #[.int .u8 y0, .int .u64 y1, .int .u64 y2, .int .u64 y3, .int .u64 y4, .slice yl yn yc] 27) HVc.out); replace HRA := Lib.hid (HRA.out.below hb); replace HRB := Lib.hid (HRB.out.below hb); replace BX := Lib.hid (BX.out.go hb); rw [← hV, ← hg] at Fc; rw [← hV] at BX HRA HRB; rw [← hV, ← hg]; clear hV hg hb HVc; refine (sameAll_any L L al al2 cap cap2 _ hLl hLl HRA.out HRB.out).mono ?_; rintro e Wd ⟨rfl, hb⟩; rw [show sameRs L L = true from (sameRs_iff L L).2 rfl]; replace HRB := Lib.hid (HRB.out.below hb); replace BX := Lib.hid (BX.out.go hb); replace Fc := Lib.hid (Fc.out.go hb); clear hb HRA
      by_cases hn : n2 = 0
      · subst hn; rw [show ((0 : Nat) : Int) = 0 from rfl]; obtain ⟨m, hm, hLm⟩ := HWW.out.2.2 rfl; (have hmL : m < L.length := by omega); obtain ⟨bk, off, rfl, hblt, hnode⟩ := HRB.out.kid hmL; (have hLe : L[m] = r2 := by rw [List.getElem?_eq_getElem hmL] at hLm; exact Option.some.inj hLm); rw [hLe] at hnode; obtain ⟨ky, ⟨na, nb, ne, nd⟩, kys⟩ := r2; obtain ⟨al3, cap3, ⟨i0, i1, i2, i3, i4, i5⟩, hre⟩ := hnode.read; simp only at i0 i1 i2 i3 i4 i5; have CM := Lib.hid fun x (hx : Below Wd.heap.size Wd x) => six_keep hblt ⟨i0, i1, i2, i3, i4, i5⟩ hx; have CY := Lib.hid fun x (hx : Below Wd.heap.size Wd x) => cellsR (Fc.out.go hx).1; have HRE := Lib.hid hre; have WB := Lib.hid fun x (hx : Below Wd.heap.size Wd x) => (BX.out.go hx).2; have KS := Lib.hid fun x (hx : Below Wd.heap.size Wd x) => refSame (.node ky ⟨na, nb, ne, nd⟩ kys) (.node ky ⟨na, nb, ne, nd⟩ kys) _ _ x (Fc.out.go hx).2 (HRE.out.below hx); rw [same9] at KS; have HSUB := Lib.hid (show IntKind.i64.wrap ((L.length : Int) - 1) = (m : Int) from by rw [IntKind.wrap_i64]; omega); have HLM := Lib.hid (show (m : Int) < (L.length : Int) from by omega); clear i0 i1 i2 i3 i4 i5 hnode hre hm hLm hLe hmL hcap2 HRB HWW HLL; go_wp2_with fail; refine wp_region_order (fun i => ([SP.eq (.agg #[.int .u8 y0, .int .u64 y1, .int .u64 y2, .int .u64 y3, .int .u64 y4, .slice yl yn yc]), SP.eq (.slice (some ⟨bk, off, none⟩) L.length cap2), SP.eq (.slice (some ⟨bk, off, none⟩) L.length cap2), SP.eq (.int .i64 L.length), SP.eq (.int .i64 m), SP.eq (.pointer (some ⟨bk, off + m * 6, none⟩)), SP.eq (.agg #[.int .u8 ky, .int .u64 na, .int .u64 nb, .int .u64 ne, .int .u64 nd, .slice al3 kys.length cap3]), SP.eq (.bool true), SP.eq (.bool true), SP.eq (.bool true), SP.eq (.bool true), SP.eq (.bool true)] : List SP).getD i SP.free) (by kernel_rfl) (by kernel_rfl) ⟨?_, ?_, ?_, ?_, ?_, ?_, ?_, ?_, ?_, ?_, ?_, ?_, trivial⟩ ?_
        · intro a x K out get hb hK; rw [if_pos (wanted_none rfl)]; have o9 : a.tmps[9]? = some (.pointer (some ⟨gc, 0, none⟩)) := out 9 (by kernel_rfl); clear out get; obtain ⟨c0, c1, c2, c3, c4, c5, -⟩ := CY.out x hb; go_simp; exact hK _ _ rfl (Below.refl _ _)
        · intro a x K out get hb hK; rw [if_pos (wanted_none rfl)]; have o7 : a.tmps[7]? = some (.slice (some ⟨bk, off, none⟩) L.length cap2) := out 7 (by kernel_rfl); clear out get; go_simp; exact hK _ _ rfl (Below.refl _ _)
        · intro a x K out get hb hK; rw [if_pos (wanted_none rfl)]; have o7 : a.tmps[7]? = some (.slice (some ⟨bk, off, none⟩) L.length cap2) := out 7 (by kernel_rfl); clear out get; go_simp; exact hK _ _ rfl (Below.refl _ _)
        · intro a x K out get hb hK; rw [if_pos (wanted_none rfl)]; obtain ⟨y61, hy61, rfl⟩ := get 2 _ _ rfl rfl (by kernel_rfl); clear out get; go_simp; exact hK _ _ rfl (Below.refl _ _)
        · intro a x K out get hb hK; rw [if_pos (wanted_none rfl)]; obtain ⟨y62, hy62, rfl⟩ := get 3 _ _ rfl rfl (by kernel_rfl); clear out get; have hsub := HSUB.out; go_simp; exact hK _ _ rfl (Below.refl _ _)
        · intro a x K out get hb hK; rw [if_pos (wanted_none rfl)]; obtain ⟨y60, hy60, rfl⟩ := get 1 _ _ rfl rfl (by kernel_rfl); obtain ⟨y63, hy63, rfl⟩ := get 4 _ _ rfl rfl (by kernel_rfl); clear out get; have hlm := HLM.out; go_simp; exact hK _ _ rfl (Below.refl _ _)
        · intro a x K out get hb hK; rw [if_pos (wanted_none rfl)]; obtain ⟨y64, hy64, rfl⟩ := get 5 _ _ rfl rfl (by kernel_rfl); clear out get; obtain ⟨c0, c1, c2, c3, c4, c5⟩ := CM.out x hb; go_simp; exact hK _ _ rfl (Below.refl _ _)
        · intro a x K out get hb hK; rw [if_pos (wanted_none rfl)]; obtain ⟨y59, hy59, rfl⟩ := get 0 _ _ rfl rfl (by kernel_rfl); obtain ⟨y65, hy65, rfl⟩ := get 6 _ _ rfl rfl (by kernel_rfl); clear out get; go_simp; refine (KS.out x hb).mono ?_; rintro e w2 ⟨rfl, hb2⟩; exact hK _ _ rfl hb2
        · intro a x K out get hb hK; rw [if_pos (wanted_none rfl)]; obtain ⟨y66, hy66, rfl⟩ := get 7 _ _ rfl rfl (by kernel_rfl); clear out get; go_simp; exact hK _ _ rfl (Below.refl _ _)
        · intro a x K out get hb hK; obtain ⟨yg, hyg, rfl⟩ := get 8 _ _ rfl rfl (by kernel_rfl); rw [if_pos (by rw [wanted_bool rfl rfl rfl hyg]; rfl)]; clear hyg; clear out get; go_simp; refine (KA.out x (WB.out x hb)).mono ?_; rintro e w2 ⟨rfl, hb2⟩; exact hK _ _ rfl hb2
        · intro a x K out get hb hK; rw [if_pos (wanted_none rfl)]; obtain ⟨y67, hy67, rfl⟩ := get 8 _ _ rfl rfl (by kernel_rfl); obtain ⟨y68, hy68, rfl⟩ := get 9 _ _ rfl rfl (by kernel_rfl); clear out get; go_simp; exact hK _ _ rfl (Below.refl _ _)
        · intro a x K out get hb hK; rw [if_pos (wanted_none rfl)]; obtain ⟨y69, hy69, rfl⟩ := get 10 _ _ rfl rfl (by kernel_rfl); clear out get; go_simp; exact hK _ _ rfl (Below.refl _ _)
        refine ao_fin (isD := fun s => (decide (59 ≤ s) && decide (s ≤ 69)) || decide (s = 4)) (by kernel_rfl) ?_; intro f x hv hb; have h4 : f 4 = .bool true := hv 11 _ _ rfl rfl; have HE := Lib.hid (WB.out x hb); clear hv hb; generalize hF : (Act.mk (List.toArray (frm f _ 0 _)) _) = fr; simp [frm] at hF; rw [h4] at hF; subst hF; generalize f 59 = u59 at *; generalize f 60 = u60 at *; generalize f 61 = u61 at *; generalize f 62 = u62 at *; generalize f 63 = u63 at *; generalize f 64 = u64 at *; generalize f 65 = u65 at *; generalize f 66 = u66 at *; generalize f 67 = u67 at *; generalize f 68 = u68 at *; generalize f 69 = u69 at *; clear h4 f; go_wp2; go_ret; exact ⟨rfl, HE.out⟩
      · obtain rfl : r2 = zeroX := HWW.out.2.1 hn; (have hn2 : ((n2 : Int) == 0) = false := by simp; exact hn); obtain ⟨c0, c1, c2, c3, c4, c5, -⟩ := cellsR BX.out.1; have lx := (Array.getElem?_eq_some_iff.1 BX.out.1).1; obtain ⟨dc0, dc1, dc2, dc3, dc4, dc5, -⟩ := cellsR Fc.out.1; have lc := Fc.out.lt; go_wp2_with fail; clear c0 c1 c2 c3 c4 c5 lx dc0 dc1 dc2 dc3 dc4 dc5 lc; refine (refSame zeroX zeroX _ _ _ Fc.out.2 (bareAt (fun _ => True) _ 0 Ws.nil (by decide) Ws.nil_ok)).mono ?_; rintro e We ⟨rfl, hb⟩; rw [same9]; replace BX := Lib.hid (BX.out.go hb); replace Fc := Lib.hid (Fc.out.go hb); clear hb; obtain ⟨c0, c1, c2, c3, c4, c5, -⟩ := cellsR BX.out.1; have lx := (Array.getElem?_eq_some_iff.1 BX.out.1).1; obtain ⟨dc0, dc1, dc2, dc3, dc4, dc5, -⟩ := cellsR Fc.out.1; have lc := Fc.out.lt; go_wp2_with fail; clear c0 c1 c2 c3 c4 c5 lx dc0 dc1 dc2 dc3 dc4 dc5 lc; refine (KA.out _ BX.out.2).mono ?_; rintro e w' ⟨rfl, hb⟩; have HE := Lib.hid (BX.out.2.trans (hb.mono BX.out.2.size)); clear hb; go_wp2; go_ret; exact ⟨rfl, HE.out⟩
    · (have q1 : (12 : Int) < (s.size : Int) := by omega); go_wp2_with fail; refine (KA.out _ BX.out.2).mono ?_; rintro e w' ⟨rfl, hb⟩; have HE := Lib.hid (BX.out.2.trans (hb.mono BX.out.2.size)); clear hb; go_wp2; go_ret; exact ⟨rfl, HE.out⟩
end Go.Proofs.YtkieoomjenhacaaGreatDoor
