/- Lemmas of mine, merged: QPStbD, QPStbE, QPOrdJ, QPOrdK, QPOrdL. -/
import Derived.Deep.CutRange
import Derived.Test.YthgghaaddankoaaGreatDoorQPOrdIAll
import Derived.Laws.MakeOwn
import Derived.Test.YthgghaaddankoaaGreatDoorQPRexEAll
import Derived.Lib.SliceRun
/- Lemmas of mine. -/
namespace Go.Proofs.YthgghaaddankoaaGreatDoor
open Go.RowKit
theorem merge_plan {l : List Rx} {D : Nat → Nat} {a s m e b mid : Nat} (h0 : a ≤ s) (h1 : s ≤ m) (h2 : m ≤ e) (h3 : e ≤ b) (hmid : s + (e - m) = mid) (hb : b ≤ l.length) (hL : SortedOn l D a m) (hR : SortedOn l D m b) (hX : CrossOn l D a m b) (hV : ∀ x, a ≤ x → x < b → D x < l.length)
    (ha : s = a ∨ e = b ∨ ¬ ordR (atR l (D e)) (atR l (D (s - 1))) < 0) (hq : s = m ∨ e = m ∨ ordR (atR l (D (e - 1))) (atR l (D s)) < 0) :
    (a < s → s < mid → MergePre l (rotD D s m e) a s mid) ∧ (¬ (a < s ∧ s < mid) → SortedOn l (rotD D s m e) a mid) ∧
    (∀ E1, SegOn (rotD D s m e) E1 a mid → mid < e → e < b → MergePre l E1 mid e b) ∧ (∀ E1, SegOn (rotD D s m e) E1 a mid → ¬ (mid < e ∧ e < b) → SortedOn l E1 mid b) ∧
    (∀ E1 E2, SegOn (rotD D s m e) E1 a mid → SortedOn l E1 a mid → SegOn E1 E2 mid b → SortedOn l E2 mid b → SegOn D E2 a b ∧ SortedOn l E2 a b) := by
  obtain ⟨P1, P2⟩ := part_at h0 h1 h2 h3 hL hR hX ha hq; obtain ⟨r1, r2, r3, r4, r5, r6, r7⟩ := rot_parts h0 h1 h2 h3 hL hR hX P1 P2; have hseg := rot_seg D h1 h2; rw [hmid] at r2 r3 r5 r6 r7
  have hval : ∀ x, a ≤ x → x < b → rotD D s m e x < l.length := fun x q1 q2 => by
    by_cases c : s ≤ x ∧ x < e
    · obtain ⟨j, j1, j2, e'⟩ := hseg.2.1 x c.1 c.2; rw [e']; exact hV j (by omega) (by omega)
    · rw [hseg.1 x c]; exact hV x q1 q2
  refine ⟨fun q1 q2 => ⟨q1, q2, by omega, r1, r2, r5, fun x x1 x2 => hval x x1 (by omega)⟩, fun q => ?_, fun E1 hE q1 q2 => ⟨q1, q2, hb, ?_, ?_, ?_, ?_⟩, fun E1 hE q => ?_, fun E1 E2 k1 k2 k3 k4 => ⟨?_, ?_⟩⟩
  · by_cases c : s = a
    · subst c; exact r2
    · (obtain rfl : s = mid := by omega); exact r1
  · exact r3.out hE (.inr (Nat.le_refl _))
  · exact r4.out hE (.inr (by omega))
  · intro i j i1 i2 j1 j2 ho; rw [hE.1 i (by omega), hE.1 j (by omega)] at ho ⊢; exact r6 i j i1 i2 j1 j2 ho
  · intro x x1 x2; rw [hE.1 x (by omega)]; exact hval x (by omega) x2
  · by_cases c : mid = e
    · subst c; exact r4.out hE (.inr (Nat.le_refl _))
    · (obtain rfl : e = b := by omega); exact r3.out hE (.inr (Nat.le_refl _))
  · exact ((hseg.mono h0 h3).trans (k1.mono (Nat.le_refl _) (by omega))).trans (k3.mono (by omega) (Nat.le_refl _))
  · exact sorted_join (k2.out k3 (.inl (Nat.le_refl _))) k4 (seg_ahead k1 k3 r7)
def srchI (l : List Rx) (w0 : World) (c : Nat) (al : Option Addr) (cap g : Nat) (D : Nat → Nat) (n s0 r0 : Nat) (vs vr : Value) (wr : World) : Prop := ∃ s r : Nat, vs = .int .i64 s ∧ vr = .int .i64 r ∧ s0 ≤ s ∧ s ≤ r ∧ r ≤ r0 ∧ (s = s0 ∨ ¬ ordR (atR l (D (n - s))) (atR l (D (s - 1))) < 0) ∧ (r = r0 ∨ ordR (atR l (D (n - 1 - r))) (atR l (D r)) < 0) ∧ SF w0 c al l.length cap g D wr
def SBnd (a m b mid s0 r0 : Nat) : Prop := a ≤ s0 ∧ s0 ≤ r0 ∧ r0 ≤ m ∧ r0 ≤ mid ∧ mid + m ≤ s0 + b ∧ (s0 = a ∨ mid + m = s0 + b) ∧ (r0 = m ∨ r0 = mid)
def bndI (a m b mid : Nat) (w1 : World) (vs vr : Value) (wr : World) : Prop := ∃ s0 r0 : Nat, vs = .int .i64 s0 ∧ vr = .int .i64 r0 ∧ SBnd a m b mid s0 r0 ∧ wr = w1
def turnI (w0 : World) (c : Nat) (al : Option Addr) (n cap g : Nat) (E : Nat → Nat) (e : Nat) (v : Value) (wr : World) : Prop := v = .int .i64 e ∧ SF w0 c al n cap g E wr
def leftI (l : List Rx) (w0 : World) (c : Nat) (al : Option Addr) (cap g : Nat) (E : Nat → Nat) (a mid e : Nat) (v : Value) (wr : World) : Prop := v = .int .i64 e ∧ ∃ E1, SegOn E E1 a mid ∧ SortedOn l E1 a mid ∧ SF w0 c al l.length cap g E1 wr
set_option maxRecDepth 100000 in
set_option maxHeartbeats 8000000 in
theorem merge_any {ok : Nat → Prop} (l : List Rx) (al : Option Addr) (cap c g : Nat) (w0 : World) (hl : l.length ≤ 1000000) (hR : RowAt ok w0 al l) (hg : w0.heap.size ≤ g) (hcg : c ≠ g) (N : Nat) :
    ∀ (a m b : Nat) (D : Nat → Nat) (w : World), b - a ≤ N → MergePre l D a m b → SF w0 c al l.length cap g D w →
    Calls Tryz.prog 173 #[.slice (some ⟨g, 0, none⟩) l.length l.length, .int .i64 a, .int .i64 m, .int .i64 b, .func (.func 135) #[] #[.pointer (some ⟨c, 0, none⟩)]] w (DonePost l w0 c al cap g D a b) := by
  induction N with
  | zero => intro a m b D w hN hP; exact absurd hP.1 (by have := hP.2.1; omega)
  | succ N ih =>
    intro a m b D w hN hP hS
    by_cases c1 : m = a + 1
    · exact merge_one l al cap c g a b D w0 w hl hR hg hcg m c1 hP hS
    by_cases c2 : b = m + 1
    · exact merge_last l al cap c g a m D w0 w hl hR hg hcg c1 b c2 hP hS
    have KC := Lib.hid fun W (h : Below w0.heap.size w0 W) (hc : BoxL W c al l.length cap) i k (hi : i < l.length) (hk : k < l.length) => cmpAt l al cap c i k W (hR.below h) hc hi hk; have KR := Lib.hid fun s m e E W (q1 : s < m) (q2 : m < e) (q3 : e ≤ l.length) (h : SF w0 c al l.length cap g E W) => rotate_any al l.length cap c g s m e E (.func (.func 135) #[] #[.pointer (some ⟨c, 0, none⟩)]) w0 W hl hg hcg q1 q2 q3 h; have IH := Lib.hid ih; have HS := Lib.hid hS; have HP := Lib.hid hP; obtain ⟨h1, h2, h3, h4, h5, h6, h7⟩ := hP; have HV := Lib.hid h7; clear ih hS hR h4 h5 h6 h7; (have e1 : IntKind.i64.wrap ((m : Int) - (a : Int)) = ((m - a : Nat) : Int) := by rw [IntKind.wrap_i64]; omega); (have e2 : (((m - a : Nat) : Int) == 1) = false := by simp; omega); (have e3 : IntKind.i64.wrap ((b : Int) - (m : Int)) = ((b - m : Nat) : Int) := by rw [IntKind.wrap_i64]; omega); (have e4 : (((b - m : Nat) : Int) == 1) = false := by simp; omega); have e5 : b - a ≤ N + 1 := hN; generalize m - a = d1 at e1 e2; generalize b - m = d2 at e3 e4; have hh := half_i a b; (have hm1 : a ≤ (a + b) / 2 := by omega); (have hm2 : (a + b) / 2 < b := by omega); (have hm3 : a + b ≤ 2 * ((a + b) / 2) + 1 := by omega); (have hm4 : 2 * ((a + b) / 2) ≤ a + b := by omega); generalize (a + b) / 2 = mid at *; (have e9 : IntKind.i64.wrap ((mid : Int) + (m : Int)) = ((mid + m : Nat) : Int) := by rw [IntKind.wrap_i64]; omega); obtain ⟨n, hn⟩ : ∃ n, n = mid + m := ⟨_, rfl⟩; rw [← hn] at e9; (have e6 : IntKind.i64.wrap ((n : Int) - 1) = ((n - 1 : Nat) : Int) := by rw [IntKind.wrap_i64]; omega); have HN := Lib.hid hn; clear hn; go_enter Tryz.func173, Tryz.ntmps173
    go_upto_if 140 with fail
    go_cut [20, 21] from 138 to 146 (fun s r wx => bndI a m b mid w s r wx)
    case first =>
      by_cases hc : mid < m
      · (have q1 : (mid : Int) < (m : Int) := by omega); (have e7 : IntKind.i64.wrap ((n : Int) - (b : Int)) = ((n - b : Nat) : Int) := by have := HN.out; rw [IntKind.wrap_i64]; omega); go_wp2_with fail
        go_meet
        exact ⟨n - b, mid, rfl, rfl, by have := HN.out; unfold SBnd; omega, rfl⟩
      · (have q1 : ¬ (mid : Int) < (m : Int) := by omega); go_wp2_with fail
        go_meet
        exact ⟨a, m, rfl, rfl, by have := HN.out; unfold SBnd; omega, rfl⟩
    case rest =>
      obtain ⟨s0, r0, rfl, rfl, hB, rfl⟩ := hcut; have HB := Lib.hid hB; clear hB; go_wp2
      go_loopw [20, 21] (fun y z wr => srchI l w0 c al cap g D n s0 r0 y z wr) (fun y z _ => (intOf z).toNat - (intOf y).toNat)
      case atStart => exact ⟨s0, r0, rfl, rfl, Nat.le_refl _, HB.out.2.1, Nat.le_refl _, .inl rfl, .inl rfl, HS.out⟩
      case round =>
        obtain ⟨s, r, rfl, rfl, hs, hsr, hr, hA, hB, hSr⟩ := hrel; clear HS; have HS := Lib.hid hSr; have HA := Lib.hid hA; have HQ := Lib.hid hB; clear hSr hA hB
        by_cases hlt : s < r
        · (have q1 : (s : Int) < (r : Int) := by omega); have hh := half_i s r; (have hh1 : s ≤ (s + r) / 2 := by omega); (have hh2 : (s + r) / 2 < r := by omega); generalize (s + r) / 2 = h at *; obtain ⟨p, hp⟩ : ∃ p, p = n - 1 - h := ⟨_, rfl⟩; have hb1 := HB.out; have hn1 := HN.out; unfold SBnd at hb1; (have hp1 : a ≤ p := by omega); (have hp2 : p < b := by omega); (have hr0 : h < l.length := by omega); (have r4 : IntKind.i64.wrap (((n - 1 : Nat) : Int) - (h : Int)) = (p : Int) := by rw [IntKind.wrap_i64]; omega); have c1 := HS.out.cell p (by omega); have c2 := HS.out.cell h (by omega); have K1 := Lib.hid fun W (q : Below wr.heap.size wr W) => KC.out W (HS.out.1.trans (q.mono HS.out.1.size)) (HS.out.2.1.of (q.block _ HS.out.2.1.lt)) (D p) (D h) (HV.out p hp1 hp2) (HV.out h (by omega) (by omega)); have hglt := HS.out.2.2.lt; have KEEP := Lib.hid fun x (hx : Below wr.heap.size wr x) => show (x.cell? ⟨g, p, none⟩ = some (.int .i64 (D p)) ∧ x.cell? ⟨g, h, none⟩ = some (.int .i64 (D h))) ∧ Below wr.heap.size wr x from ⟨⟨(hx.cell (p := ⟨g, p, none⟩) hglt).trans c1, (hx.cell (p := ⟨g, h, none⟩) hglt).trans c2⟩, hx⟩; have HG2 := Lib.hid fun x (q : ¬ ordR (atR l (D p)) (atR l (D h)) < 0) (hx : SF w0 c al l.length cap g D x) => show srchI l w0 c al cap g D n s0 r0 (.int .i64 ((h + 1 : Nat) : Int)) (.int .i64 r) x from ⟨h + 1, r, rfl, rfl, by omega, by omega, hr, .inr (by rw [Nat.add_sub_cancel, show n - (h + 1) = p from by omega]; exact q), HQ.out, hx⟩; have HG1 := Lib.hid fun x (q : ordR (atR l (D p)) (atR l (D h)) < 0) (hx : SF w0 c al l.length cap g D x) => show srchI l w0 c al cap g D n s0 r0 (.int .i64 s) (.int .i64 h) x from ⟨s, h, rfl, rfl, hs, by omega, by omega, HA.out, .inr (by rw [← hp]; exact q), hx⟩; (have s1 : (p : Int) < (l.length : Int) := by omega); (have s2 : (h : Int) < (l.length : Int) := by omega); clear hp hb1 hn1 hp1 hp2; generalize ordR (atR l (D p)) (atR l (D h)) = q at *; generalize D p = y at *; generalize D h = z at *; (have r3 : IntKind.i64.wrap ((h : Int) + 1) = (h : Int) + 1 := by rw [IntKind.wrap_i64]; omega); go_wp2_with fail
          go_region_held3 (fun x => (x.cell? ⟨g, p, none⟩ = some (.int .i64 y) ∧ x.cell? ⟨g, h, none⟩ = some (.int .i64 z)) ∧ Below wr.heap.size wr x) (first | assumption | (with_reducible exact KEEP.out _ (Below.refl _ _).drew) | (with_reducible exact KEEP.out _ (by assumption)))
              (first | (go_at_call 135; (with_reducible refine (K1.out _ (And.right (by assumption))).mono ?_); (rintro e x ⟨rfl, hb1⟩); (have hbx : Below wr.heap.size wr x := (Below.refl _ wr).drew.trans hb1)))
          have HS2 := Lib.hid (HS.out.go hbx); clear hb1 hbx HS c1 c2 KEEP K1
          by_cases hq : q < 0
          · (have d9 : decide (q < 0) = true := by simpa using hq); have HG := Lib.hid (HG1.out _ hq HS2.out); clear hq HG1 HG2 HS2; rw [d9]; go_wp2; exact ⟨by simpa using HG.out, by simp [intOf]; omega⟩
          · (have d9 : decide (q < 0) = false := by simpa using hq); have HG := Lib.hid (HG2.out _ (by omega) HS2.out); clear hq HG1 HG2 HS2; rw [d9]; go_wp2; exact ⟨by simpa using HG.out, by simp [intOf]; omega⟩
        · (obtain rfl : s = r := by omega); (have q1 : ¬ (s : Int) < (s : Int) := by omega); obtain ⟨e, he⟩ : ∃ e, e = n - s := ⟨_, rfl⟩; have hb1 := HB.out; have hn1 := HN.out; unfold SBnd at hb1; (have r5 : IntKind.i64.wrap ((n : Int) - (s : Int)) = (e : Int) := by rw [IntKind.wrap_i64]; omega); have hP := HP.out
          have hpl := merge_plan (l := l) (D := D) (a := a) (s := s) (m := m) (e := e) (b := b) (mid := mid) (by omega) (by omega) (by omega) (by omega) (by omega) h3 hP.2.2.2.1 hP.2.2.2.2.1 hP.2.2.2.2.2.1 hP.2.2.2.2.2.2
            (by
              rcases HA.out with h | h
              · rcases hb1.2.2.2.2.2.1 with h' | h'
                · exact .inl (by omega)
                · exact .inr (.inl (by omega))
              · exact .inr (.inr (by rw [he]; exact h)))
            (by
              rcases HQ.out with h | h
              · rcases hb1.2.2.2.2.2.2 with h' | h'
                · exact .inl (by omega)
                · exact .inr (.inl (by omega))
              · exact .inr (.inr (by rw [show e - 1 = n - 1 - s from by omega]; exact h)))
          (have hsm : s ≤ m := by omega); (have hme : m ≤ e := by omega); (have heb : e ≤ b := by omega); (have hsd : s ≤ mid := by omega); (have hde : mid ≤ e := by omega); (have hsa : a ≤ s := by omega); have HPL := Lib.hid hpl; clear hpl hP hb1 hn1 he HA HQ hs hr hsr HB
          go_upto_region 39 with fail
          go_cut [185] from 178 to 185 (fun v wx => v = .bool (decide (s < m ∧ m < e)) ∧ wx = wr)
          case first =>
            by_cases k1 : s < m
            · (have k1' : (s : Int) < (m : Int) := by omega)
              by_cases k2 : m < e
              · (have k2' : (m : Int) < (e : Int) := by omega); go_wp2_with fail
                go_meet
                exact ⟨by simp [k1, k2], rfl⟩
              · (have k2' : ¬ (m : Int) < (e : Int) := by omega); go_wp2_with fail
                go_meet
                exact ⟨by simp [k2], rfl⟩
            · (have k1' : ¬ (s : Int) < (m : Int) := by omega); go_wp2_with fail
              go_meet
              exact ⟨by simp [k1], rfl⟩
          case rest =>
          obtain ⟨rfl, rfl⟩ := hcut; generalize hbq : decide (s < m ∧ m < e) = bq; have HBQ := Lib.hid hbq; clear hbq
          go_upto_if 185 with fail
          go_cut [24] from 186 to 191 (fun v wx => turnI w0 c al l.length cap g (rotD D s m e) e v wx)
          case first =>
            cases bq with
            | true =>
              have hk := of_decide_eq_true HBQ.out; have KK := Lib.hid (KR.out s m e D _ hk.1 hk.2 (by omega) HS.out); clear HS; go_wp2_with fail; refine KK.out.mono ?_; rintro x w2 ⟨rfl, hw2⟩; have H := Lib.hid hw2; clear hw2; go_wp2_with fail
              go_meet
              exact ⟨rfl, H.out⟩
            | false =>
              have hk := of_decide_eq_false HBQ.out
              have hrot : rotD D s m e = D := by
                by_cases k1 : s = m
                · subst k1; exact rot_left D s e hme
                · (obtain rfl : m = e := by omega); exact rot_right D s m hsm
              go_wp2_with fail
              go_meet
              exact ⟨rfl, by rw [hrot]; exact HS.out⟩
          case rest =>
            obtain ⟨rfl, hSw⟩ := hcut; clear HS; have HS := Lib.hid hSw; clear hSw
            go_upto_region 41 with fail
            go_cut [199] from 192 to 199 (fun v wx => v = .bool (decide (a < s ∧ s < mid)) ∧ wx = wc)
            case first =>
              by_cases k1 : a < s
              · (have k1' : (a : Int) < (s : Int) := by omega)
                by_cases k2 : s < mid
                · (have k2' : (s : Int) < (mid : Int) := by omega); go_wp2_with fail
                  go_meet
                  exact ⟨by simp [k1, k2], rfl⟩
                · (have k2' : ¬ (s : Int) < (mid : Int) := by omega); go_wp2_with fail
                  go_meet
                  exact ⟨by simp [k2], rfl⟩
              · (have k1' : ¬ (a : Int) < (s : Int) := by omega); go_wp2_with fail
                go_meet
                exact ⟨by simp [k1], rfl⟩
            case rest =>
            obtain ⟨rfl, rfl⟩ := hcut; generalize hbp : decide (a < s ∧ s < mid) = bp; have HBP := Lib.hid hbp; clear hbp
            go_upto_if 199 with fail
            go_cut [24] from 200 to 205 (fun v wx => leftI l w0 c al cap g (rotD D s m e) a mid e v wx)
            case first =>
              cases bp with
              | true =>
                have k := of_decide_eq_true HBP.out; have KK := Lib.hid (IH.out a s mid _ _ (by omega) (HPL.out.1 k.1 k.2) HS.out); clear HS; go_wp2_with fail; refine KK.out.mono ?_; rintro x w2 ⟨rfl, hw2⟩; have H := Lib.hid hw2; clear hw2; go_wp2_with fail
                go_meet
                exact ⟨rfl, H.out⟩
              | false =>
                have HX := Lib.hid (HPL.out.2.1 (of_decide_eq_false HBP.out)); go_wp2_with fail
                go_meet
                exact ⟨rfl, _, SegOn.refl _ _ _, HX.out, HS.out⟩
            case rest =>
              obtain ⟨rfl, E1, hE1, hT1, hSw⟩ := hcut; clear HS; have HS := Lib.hid hSw; have HE1 := Lib.hid hE1; have HT1 := Lib.hid hT1; clear hSw hE1 hT1
              by_cases k : mid < e ∧ e < b
              · (have k1' : (mid : Int) < (e : Int) := by omega); (have k2' : (e : Int) < (b : Int) := by omega); have KK := Lib.hid (IH.out mid e b _ _ (by omega) (HPL.out.2.2.1 _ HE1.out k.1 k.2) HS.out); clear HS; go_wp2_with fail; refine KK.out.mono ?_; rintro x w2 ⟨rfl, E2, g1, g2, g3⟩; have H := Lib.hid g3; have HD := Lib.hid (HPL.out.2.2.2.2 _ _ HE1.out HT1.out g1 g2); clear g1 g2 g3; go_wp2; go_end0; exact ⟨rfl, _, HD.out.1, HD.out.2, H.out⟩
              · have HD := Lib.hid (HPL.out.2.2.2.2 _ _ HE1.out HT1.out (SegOn.refl _ _ _) (HPL.out.2.2.2.1 _ HE1.out k))
                by_cases k1 : mid < e
                · (have k1' : (mid : Int) < (e : Int) := by omega); (have k2' : ¬ (e : Int) < (b : Int) := by omega); go_wp2; go_end0; exact ⟨rfl, _, HD.out.1, HD.out.2, HS.out⟩
                · (have k1' : ¬ (mid : Int) < (e : Int) := by omega); go_wp2; go_end0; exact ⟨rfl, _, HD.out.1, HD.out.2, HS.out⟩
open Go.RowKit
def Good (n : Nat) (D : Nat → Nat) : Prop := Cov n D ∧ ∀ x, x < n → D x < n
theorem Good.seg {n : Nat} {D E : Nat → Nat} {a b : Nat} (h : Good n D) (k : SegOn D E a b) (hb : b ≤ n) : Good n E := ⟨h.1.seg k hb, fun x hx => by
  by_cases c : a ≤ x ∧ x < b
  · obtain ⟨i, i1, i2, e⟩ := k.2.1 x c.1 c.2; rw [e]; exact h.2 i (by omega)
  · rw [k.1 x c]; exact h.2 x hx⟩
def Blk1 (l : List Rx) (n : Nat) (D : Nat → Nat) (k : Nat) : Prop := (∀ j, j < k → Piece l n D (20 * j) 20) ∧ (∀ x, 20 * k ≤ x → D x = x) ∧ Good n D
theorem blk1_start (l : List Rx) (n : Nat) : Blk1 l n (fun x => x) 0 := ⟨fun _ h => absurd h (Nat.not_lt_zero _), fun _ _ => rfl, fun j h => ⟨j, h, rfl⟩, fun _ h => h⟩
theorem blk1_step {l : List Rx} {n k b : Nat} {D E : Nat → Nat} (h : Blk1 l n D k) (hE : SegOn D E (20 * k) b) (hb : b = min (20 * k + 20) n) (hS : SortedOn l E (20 * k) b) : Blk1 l n E (k + 1) := by
  obtain ⟨h1, h2, h3⟩ := h; refine ⟨fun j hj => ?_, fun x hx => ?_, h3.seg hE (by omega)⟩
  · by_cases c : j = k
    · subst c; refine ⟨by rw [← hb]; exact hS, fun x x1 x2 => ?_⟩; obtain ⟨i, i1, i2, e⟩ := hE.2.1 x x1 (by omega); rw [e, h2 i i1]; omega
    · exact (h1 j (by omega)).out hE (.inl (by omega))
  · rw [hE.1 x (by omega)]; exact h2 x (by omega)
def Blk2 (l : List Rx) (n : Nat) (D : Nat → Nat) (bs : Nat) : Prop := (∀ j, bs * j < n → Piece l n D (bs * j) bs) ∧ Good n D
theorem blk2_start {l : List Rx} {n k : Nat} {D : Nat → Nat} (h : Blk1 l n D k) (hk : n ≤ 20 * k) : Blk2 l n D 20 := ⟨fun j hj => h.1 j (by omega), h.2.2⟩
def Blk3 (l : List Rx) (n : Nat) (D : Nat → Nat) (bs k : Nat) : Prop := (∀ j, j < k → Piece l n D (2 * bs * j) (2 * bs)) ∧ (∀ j, 2 * k ≤ j → bs * j < n → Piece l n D (bs * j) bs) ∧ Good n D
theorem blk3_start {l : List Rx} {n bs : Nat} {D : Nat → Nat} (h : Blk2 l n D bs) : Blk3 l n D bs 0 := ⟨fun _ hj => absurd hj (Nat.not_lt_zero _), fun j _ hj => h.1 j hj, h.2⟩
theorem two_mul' (bs k : Nat) : bs * (2 * k) = 2 * bs * k ∧ bs * (2 * k + 1) = 2 * bs * k + bs ∧ 2 * bs * (k + 1) = 2 * bs * k + 2 * bs := by
  refine ⟨?_, ?_, ?_⟩
  · rw [← Nat.mul_assoc, Nat.mul_comm bs 2]
  · rw [Nat.mul_add, ← Nat.mul_assoc, Nat.mul_comm bs 2]; simp
  · rw [Nat.mul_add]; simp
theorem mul_step {c j k : Nat} (h : j < k) : c * j + c ≤ c * k := by
  have := Nat.mul_le_mul_left c (show j + 1 ≤ k from h)
  rwa [Nat.mul_add, Nat.mul_one] at this
theorem blk3_two {l : List Rx} {n bs k : Nat} {D : Nat → Nat} (h : Blk3 l n D bs k) (hn : 2 * bs * k + bs < n) : Piece l n D (2 * bs * k) bs ∧ Piece l n D (2 * bs * k + bs) bs := by
  obtain ⟨t1, t2, _⟩ := two_mul' bs k; have p := h.2.1 (2 * k) (Nat.le_refl _) (by omega); have q := h.2.1 (2 * k + 1) (by omega) (by omega); rw [t1] at p; rw [t2] at q; exact ⟨p, q⟩
theorem blk3_pre {l : List Rx} {bs k b : Nat} {D : Nat → Nat} (h : Blk3 l l.length D bs k) (h0 : 0 < bs) (hn : 2 * bs * k + bs < l.length) (hb : b = min (2 * bs * k + 2 * bs) l.length) : MergePre l D (2 * bs * k) (2 * bs * k + bs) b := by
  obtain ⟨p, q⟩ := blk3_two h hn; have hX := piece_cross p q; rw [← hb] at hX; exact ⟨by omega, by omega, by omega, p.1.part (Nat.le_refl _) (by omega), q.1.part (Nat.le_refl _) (by omega), hX, fun x x1 x2 => h.2.2.2 x (by omega)⟩
theorem blk3_step {l : List Rx} {bs k b : Nat} {D E : Nat → Nat} (h : Blk3 l l.length D bs k) (hn : 2 * bs * k + bs < l.length) (hb : b = min (2 * bs * k + 2 * bs) l.length) (hE : SegOn D E (2 * bs * k) b) (hS : SortedOn l E (2 * bs * k) b) : Blk3 l l.length E bs (k + 1) := by
  obtain ⟨p, q⟩ := blk3_two h hn; obtain ⟨t1, t2, t3⟩ := two_mul' bs k; rw [hb] at hE hS; have both := piece_both p q hE hS; refine ⟨fun j hj => ?_, fun j hj hjn => ?_, h.2.2.seg hE (by omega)⟩
  · by_cases c : j = k
    · subst c; exact both
    · have hm := mul_step (c := 2 * bs) (show j < k by omega); exact (h.1 j (by omega)).out hE (.inl (by omega))
  · have hm := Nat.mul_le_mul_left bs (show 2 * k + 2 ≤ j by omega); (have e : bs * (2 * k + 2) = 2 * bs * k + 2 * bs := by rw [Nat.mul_add, t1, Nat.mul_comm bs 2]); exact (h.2.1 j (by omega) hjn).out hE (.inr (by omega))
theorem blk3_done {l : List Rx} {n bs k : Nat} {D : Nat → Nat} (h : Blk3 l n D bs (k + 1)) (hk : n ≤ 2 * bs * k + 2 * bs) : Blk2 l n D (2 * bs) := by
  refine ⟨fun j hj => h.1 j ?_, h.2.2⟩
  apply Classical.byContradiction
  intro c; have hm := mul_step (c := 2 * bs) (show k < j by omega); omega
theorem blk3_last {l : List Rx} {n bs k : Nat} {D : Nat → Nat} (h : Blk3 l n D bs k) (hk : n ≤ 2 * bs * k + bs) : Blk2 l n D (2 * bs) := by
  refine ⟨fun j hj => ?_, h.2.2⟩
  by_cases c : j < k
  · exact h.1 j c
  · by_cases c2 : j = k
    · subst c2; have p := h.2.1 (2 * j) (Nat.le_refl _) (by rw [(two_mul' bs j).1]; exact hj); rw [(two_mul' bs j).1] at p; exact piece_last p hk
    · have hm := mul_step (c := 2 * bs) (show k < j by omega); omega
theorem blk2_placed {l : List Rx} {bs : Nat} {D : Nat → Nat} (h : Blk2 l l.length D bs) (hb : l.length ≤ bs) : Placed l l.length ((List.range l.length).map D) := by
  refine placed_of h.2.1 ?_
  by_cases c : l.length = 0
  · rw [c]; intro i j h1 h2 h3; omega
  · have p := (h.1 0 (by omega)).1; rw [Nat.mul_zero, Nat.zero_add, Nat.min_eq_right hb] at p; exact p
def stb1 (l : List Rx) (w0 : World) (c : Nat) (al : Option Addr) (cap g : Nat) (va vb : Value) (wr : World) : Prop := ∃ (k : Nat) (D : Nat → Nat), va = .int .i64 (20 * k : Nat) ∧ vb = .int .i64 (20 * k + 20 : Nat) ∧ 20 * k ≤ l.length ∧ Blk1 l l.length D k ∧ SF w0 c al l.length cap g D wr
def stb2 (l : List Rx) (w0 : World) (c : Nat) (al : Option Addr) (cap g : Nat) (vs : Value) (wr : World) : Prop := ∃ (bs : Nat) (D : Nat → Nat), vs = .int .i64 bs ∧ 20 ≤ bs ∧ bs ≤ 2000020 ∧ Blk2 l l.length D bs ∧ SF w0 c al l.length cap g D wr
def stb3 (l : List Rx) (w0 : World) (c : Nat) (al : Option Addr) (cap g bs : Nat) (va vb : Value) (wr : World) : Prop := ∃ (a k : Nat) (D : Nat → Nat), va = .int .i64 a ∧ vb = .int .i64 (a + 2 * bs : Nat) ∧ a = 2 * bs * k ∧ a ≤ l.length ∧ Blk3 l l.length D bs k ∧ SF w0 c al l.length cap g D wr
set_option maxRecDepth 100000 in
set_option maxHeartbeats 8000000 in
theorem stable_all {ok : Nat → Prop} (l : List Rx) (al : Option Addr) (cap c g : Nat) (w0 w : World) (hl : l.length ≤ 1000000) (hR : RowAt ok w0 al l) (hg : w0.heap.size ≤ g) (hcg : c ≠ g) (hS : SortAt w0 c al l.length cap g (List.range l.length) w) :
    Calls Tryz.prog 148 #[.slice (some ⟨g, 0, none⟩) l.length l.length, .int .i64 l.length, .func (.func 135) #[] #[.pointer (some ⟨c, 0, none⟩)]] w (SortedPost l w0 c al cap g) := by
  have KI := Lib.hid fun a b D W (hb : b ≤ l.length) (ha : a ≤ l.length) (hD : ∀ x, a ≤ x → x < b → D x = x) (h : SF w0 c al l.length cap g D W) => insert_any l al cap c g a b D w0 W hl hR hg hcg hb ha hD h; have KM := Lib.hid fun a m b D W (hP : MergePre l D a m b) (h : SF w0 c al l.length cap g D W) => merge_any l al cap c g w0 hl hR hg hcg (b - a) a m b D W (Nat.le_refl _) hP h; (have hS0 : SF w0 c al l.length cap g (fun x => x) w := by unfold SF; simpa using hS); have HS := Lib.hid hS0; clear hS hS0 hR; go_enter Tryz.func148, Tryz.ntmps148; go_wp2
  go_loopw [7, 8] (fun a b wr => stb1 l w0 c al cap g a b wr) (fun _ b _ => l.length + 20 - (intOf b).toNat)
  case atStart => exact ⟨0, fun x => x, rfl, rfl, Nat.zero_le _, blk1_start _ _, HS.out⟩
  case round =>
    obtain ⟨k, D, rfl, rfl, hk, hB, hSr⟩ := hrel; clear HS; have HS := Lib.hid hSr; have HB := Lib.hid hB; clear hSr hB; (have ra : IntKind.i64.wrap (((20 * k + 20 : Nat) : Int) + 20) = ((20 * (k + 1) + 20 : Nat) : Int) := by rw [IntKind.wrap_i64]; omega); obtain ⟨a, ha⟩ : ∃ a, a = 20 * k := ⟨_, rfl⟩; rw [← ha] at ra hk ⊢
    by_cases hlt : a + 20 ≤ l.length
    · (have q1 : ((a + 20 : Nat) : Int) ≤ (l.length : Int) := by omega); obtain ⟨b, hb⟩ : ∃ b, b = a + 20 := ⟨_, rfl⟩; rw [← hb] at ra q1 ⊢; have KK := Lib.hid (KI.out a b D wr (by omega) hk (fun x h1 _ => HB.out.2.1 x (by omega)) HS.out); (have hnx : 20 * (k + 1) = b := by omega); rw [hnx] at ra; have HA := Lib.hid ha; have HBB := Lib.hid hb; clear ha hb HS; go_wp2_with fail; refine KK.out.mono ?_; rintro e w1 ⟨rfl, E, g1, g2, g3⟩; have H := Lib.hid (show stb1 l w0 c al cap g (.int .i64 b) (.int .i64 (b + 20 : Nat)) w1 from ⟨k + 1, E, by rw [hnx], by rw [hnx], by have := HBB.out; omega, blk1_step HB.out (by rw [← HA.out]; exact g1) (by have := HA.out; have := HBB.out; omega) (by rw [← HA.out]; exact g2), g3⟩); clear g1 g2 g3 KK; go_wp2; exact ⟨H.out, by simp [intOf]; omega⟩
    · (have q1 : ¬ ((a + 20 : Nat) : Int) ≤ (l.length : Int) := by omega); obtain ⟨b, hb⟩ : ∃ b, b = a + 20 := ⟨_, rfl⟩; rw [← hb] at q1 ⊢; have KK := Lib.hid (KI.out a l.length D wr (Nat.le_refl _) hk (fun x h1 _ => HB.out.2.1 x (by omega)) HS.out); have HA := Lib.hid ha; have HBB := Lib.hid hb; clear ha hb HS ra; go_wp2_with fail; refine KK.out.mono ?_; rintro e w1 ⟨rfl, E, g1, g2, g3⟩; have H := Lib.hid (show stb2 l w0 c al cap g (.int .i64 20) w1 from ⟨20, E, rfl, Nat.le_refl _, by omega, blk2_start (blk1_step HB.out (by rw [← HA.out]; exact g1) (by have := HA.out; have := HBB.out; omega) (by rw [← HA.out]; exact g2)) (by have := HA.out; have := HBB.out; omega), g3⟩); clear g1 g2 g3 KK; go_wp2
      go_loopw [6, 7, 8, 9] (fun s _ _ _ wr => stb2 l w0 c al cap g s wr) (fun s _ _ _ _ => l.length - (intOf s).toNat)
      case atStart => exact H.out
      case round =>
        obtain ⟨bs, D, rfl, hb1, hb2, hB2, hS2⟩ := hrel; clear H HB; have HS := Lib.hid hS2; have HB := Lib.hid hB2; clear hB2 hS2
        by_cases hc : bs < l.length
        · (have q2 : (bs : Int) < (l.length : Int) := by omega); (have r2 : IntKind.i64.wrap (2 * (bs : Int)) = ((2 * bs : Nat) : Int) := by rw [IntKind.wrap_i64]; omega); go_wp2
          go_loopw [7, 8] (fun a b wr => stb3 l w0 c al cap g bs a b wr) (fun _ b _ => l.length + 1 - (intOf b).toNat)
          case atStart => exact ⟨0, 0, D, rfl, by simp, by simp, Nat.zero_le _, blk3_start HB.out, HS.out⟩
          case round =>
            obtain ⟨a', k', D', rfl, rfl, ha', hle, hB3, hS3⟩ := hrel; clear HS HB; have HS := Lib.hid hS3; have HB := Lib.hid hB3; have HA' := Lib.hid ha'; clear hB3 hS3 ha'; obtain ⟨b', hb'⟩ : ∃ b', b' = a' + 2 * bs := ⟨_, rfl⟩; obtain ⟨m', hm'⟩ : ∃ m', m' = a' + bs := ⟨_, rfl⟩; obtain ⟨t, ht⟩ : ∃ t, t = 2 * bs := ⟨_, rfl⟩; (have r3 : IntKind.i64.wrap ((a' : Int) + (bs : Int)) = (m' : Int) := by rw [IntKind.wrap_i64]; omega); (have r5 : IntKind.i64.wrap ((bs : Int) * 2) = (t : Int) := by rw [IntKind.wrap_i64]; omega); rw [← hb']; rw [← ht] at r2
            by_cases hin : b' ≤ l.length
            · (have q3 : (b' : Int) ≤ (l.length : Int) := by omega); (have r4 : IntKind.i64.wrap ((b' : Int) + (t : Int)) = ((b' + 2 * bs : Nat) : Int) := by rw [IntKind.wrap_i64]; omega); have HM := Lib.hid hm'; have HBB' := Lib.hid hb'
              have KK := Lib.hid (KM.out a' m' b' D' wr (by
                have h := blk3_pre HB.out (b := b') (by omega) (by have := HA'.out; omega) (by have := HA'.out; omega); rw [← HA'.out, ← HM.out] at h
                exact h) HS.out)
              have HT := Lib.hid ht; clear hm' ht hb' HS; go_wp2_with fail; refine KK.out.mono ?_; rintro e w2 ⟨rfl, E', g1, g2, g3⟩; have H := Lib.hid (show stb3 l w0 c al cap g bs (.int .i64 b') (.int .i64 (b' + 2 * bs : Nat)) w2 from ⟨b', k' + 1, E', rfl, rfl, by rw [(two_mul' bs k').2.2, ← HA'.out]; exact HBB'.out, hin, blk3_step HB.out (b := b') (by have := HA'.out; have := HBB'.out; omega) (by have := HA'.out; have := HBB'.out; omega) (by rw [← HA'.out]; exact g1) (by rw [← HA'.out]; exact g2), g3⟩); clear g1 g2 g3 KK; go_wp2; exact ⟨H.out, by show l.length + 1 - (((b' + 2 * bs : Nat) : Int)).toNat < l.length + 1 - ((b' : Int)).toNat; omega⟩
            · (have q3 : ¬ (b' : Int) ≤ (l.length : Int) := by omega); have HM := Lib.hid hm'; have HBB' := Lib.hid hb'; have HT := Lib.hid ht
              by_cases hml : m' < l.length
              · (have q4 : (m' : Int) < (l.length : Int) := by omega); (have hmin : l.length = min (2 * bs * k' + 2 * bs) l.length := by have := HA'.out; omega)
                have KK := Lib.hid (KM.out a' m' l.length D' wr (by
                  have h := blk3_pre HB.out (b := l.length) (by omega) (by have := HA'.out; omega) hmin; rw [← HA'.out, ← HM.out] at h
                  exact h) HS.out)
                have HMIN := Lib.hid hmin; clear hm' ht hb' HS hmin; go_wp2_with fail; refine KK.out.mono ?_; rintro e w2 ⟨rfl, E', g1, g2, g3⟩; have H := Lib.hid (show stb2 l w0 c al cap g (.int .i64 t) w2 from ⟨t, E', rfl, by have := HT.out; omega, by have := HT.out; omega, by rw [HT.out]; exact blk3_done (blk3_step HB.out (b := l.length) (by have := HA'.out; have := HM.out; omega) HMIN.out (by rw [← HA'.out]; exact g1) (by rw [← HA'.out]; exact g2)) (by have := HA'.out; have := HBB'.out; omega), g3⟩); clear g1 g2 g3 KK; go_wp2; exact ⟨H.out, by have h := HT.out; show l.length - ((t : Int)).toNat < l.length - ((bs : Int)).toNat; omega⟩
              · (have q4 : ¬ (m' : Int) < (l.length : Int) := by omega); have H := Lib.hid (show stb2 l w0 c al cap g (.int .i64 t) wr from ⟨t, D', rfl, by omega, by omega, by rw [ht]; exact blk3_last HB.out (by have := HA'.out; omega), HS.out⟩); clear hm' ht hb'; go_wp2; exact ⟨H.out, by have h := HT.out; show l.length - ((t : Int)).toNat < l.length - ((bs : Int)).toNat; omega⟩
        · (have q2 : ¬ (bs : Int) < (l.length : Int) := by omega); have hp := blk2_placed HB.out (by omega); have HP := Lib.hid hp; clear hp; go_wp2; go_end0; exact ⟨rfl, _, HP.out, HS.out⟩
set_option maxHeartbeats 1000000 in
theorem sortStable_all {ok : Nat → Prop} (l : List Rx) (al : Option Addr) (cap c g : Nat) (w0 w : World) (hl : l.length ≤ 1000000) (hR : RowAt ok w0 al l) (hg : w0.heap.size ≤ g) (hcg : c ≠ g) (hS : SortAt w0 c al l.length cap g (List.range l.length) w) :
    Calls Tryz.prog 134 #[.slice (some ⟨g, 0, none⟩) l.length l.length, .func (.func 135) #[] #[.pointer (some ⟨c, 0, none⟩)]] w (SortedPost l w0 c al cap g) := by
  have K := Lib.hid (stable_all l al cap c g w0 w hl hR hg hcg hS); clear hR hS; go_enter Tryz.func134, Tryz.ntmps134; go_wp2_with fail; refine K.out.mono ?_; rintro e w1 ⟨rfl, h⟩; have H := Lib.hid h; clear h; go_wp2; go_end0; exact ⟨rfl, H.out⟩
open Go.RowKit
theorem infoI : (Tryz.prog.info? 3).map (fun i => (i.zero, i.size, i.bytes)) = some (some (.int .i64 0), 1, 8) := by kernel_rfl
theorem made_ints (n : Nat) : madeCells #[.int .i64 0] n = ints (List.replicate n 0) := by
  refine Array.ext (by simp [ints, madeCells]) fun i h1 h2 => ?_; simp [ints, madeCells, Nat.mod_one]
theorem make_int (n : Nat) (hn : n < 2199023255552) (u : World) : (Instr.makeSlice 85 (.int .i64 (n : Int)) (.int .i64 (n : Int))).run Tryz.prog u =
    .ok (.slice (some ⟨u.heap.size, 0, none⟩) n n) (u.alloc (.cells (ints (List.replicate n 0)) 3)) := by
  obtain ⟨i0, hi, hz0, hz1, hz2⟩ := info_parts infoI; have h := run_make (P := Tryz.prog) u 85 3 i0 _ Tryz.underlying85 hi hz0 .i64 .i64 (n : Int) (n : Int) (by omega) (Int.le_refl _) (by rw [hz2]; omega) (by omega); rw [← made_ints]
  simpa [hz1, Value.cells] using h
theorem fill_step {i n : Nat} (h : i < n) : (List.range i ++ List.replicate (n - i) 0).set i i = List.range (i + 1) ++ List.replicate (n - (i + 1)) 0 := by
  rw [show n - i = (n - (i + 1)) + 1 from by omega, List.replicate_succ, List.set_append_right _ _ (by simp), List.range_succ]; simp
theorem fill_at {i n : Nat} (_h : i < n) (h' : i < (List.range i ++ List.replicate (n - i) 0).length) : (List.range i ++ List.replicate (n - i) 0)[i] = 0 := by
  rw [List.getElem_append_right (by simp)]; simp
def fillInv (w : World) (al : Option Addr) (n cap : Nat) (y : Value) (wr : World) : Prop := ∃ i : Nat, i ≤ n ∧ y = .int .i64 i ∧ SortAt w w.heap.size al n cap (w.heap.size + 1) (List.range i ++ List.replicate (n - i) 0) wr
def PlacesPost (l : List Rx) (w : World) (e : Ending) (w' : World) : Prop := ∃ g ds, e = .returned (.slice (some ⟨g, 0, none⟩) l.length l.length) ∧ w.heap.size ≤ g ∧ Placed l l.length ds ∧ IntsAt w' g ds ∧ Below w.heap.size w w'
set_option maxHeartbeats 2000000 in
theorem places_any {ok : Nat → Prop} (l : List Rx) (al : Option Addr) (cap : Nat) (w : World) (hl : l.length ≤ 1000000) (hR : RowAt ok w al l) :
    Calls Tryz.prog 118 #[.slice al l.length cap] w (PlacesPost l w) := by
  have K := Lib.hid fun W (h : SortAt w w.heap.size al l.length cap (w.heap.size + 1) (List.range l.length) W) => sortStable_all l al cap w.heap.size (w.heap.size + 1) w W hl hR (by omega) (by omega) h; have hmk := make_int l.length (by omega); clear hR; go_enter Tryz.func118, Tryz.ntmps118; go_wp2
  go_loopw [10] (fun y wr => fillInv w al l.length cap y wr) (fun y _ => l.length - (intOf y).toNat)
  case atStart =>
    refine ⟨0, Nat.zero_le _, rfl, ((Below.refl _ w).alloc (Nat.le_refl _) _).alloc (by simp) _, ?_, ?_⟩
    · exact (Below.heap_alloc _ _ _ (by simp)).trans (blk_new w _)
    · exact (blk_at _ _ (by simp)).trans (by simp)
  case round =>
    obtain ⟨i, hi, rfl, hS⟩ := hrel
    by_cases hlt : i < l.length
    · have c0 := hS.2.2.cell i (by simp; omega); rw [fill_at hlt] at c0; have f0 := hS.2.2.free i; have hput := hS.put (by omega) (by omega) i i; rw [fill_step hlt] at hput; have H := Lib.hid hput; (have q1 : (i : Int) < (l.length : Int) := by omega); clear hS hput; go_wp2; exact ⟨⟨i + 1, by omega, by go_num, H.out⟩, by simp [intOf]; omega⟩
    · rw [show i = l.length from by omega] at hS ⊢; rw [Nat.sub_self, List.replicate_zero, List.append_nil] at hS; have KS := Lib.hid (K.out wr hS); clear hS; go_wp2_with fail; refine KS.out.mono ?_; rintro e w1 ⟨rfl, ds, hds, hS⟩; have HD := Lib.hid hds; have H := Lib.hid hS; clear hds hS; go_wp2; go_ret; exact ⟨w.heap.size + 1, ds, rfl, by omega, HD.out, H.out.2.2, H.out.1⟩
open Go.RowKit
def RowNew (l : List Rx) (w : World) (e : Ending) (w' : World) : Prop := ∃ al, e = .returned (.slice al l.length l.length) ∧ RowAt (New w.heap.size) w' al l ∧ Below w.heap.size w w'
def opickInv (l : List Rx) (es : List Nat) (w : World) (y : Value) (wr : World) : Prop := ∃ i : Nat, i ≤ es.length ∧ y = .int .i64 i ∧ Room wr w.heap.size (es.length * 6) ∧ NodesAt (New (w.heap.size + 1)) wr w.heap.size 0 ((es.take i).map (atR l)) ∧ Below w.heap.size w wr
set_option maxHeartbeats 4000000 in
theorem picked_any {ok : Nat → Prop} (l : List Rx) (al : Option Addr) (cap g capE : Nat) (es Z : List Nat) (w : World) (hl : es.length < 2199023255552) (hR : RowAt ok w al l) (hE : IntsAt w g (es ++ Z)) (hes : ∀ x ∈ es, x < l.length) :
    Calls Tryz.prog 122 #[.slice al l.length cap, .slice (some ⟨g, 0, none⟩) es.length capE] w (RowNew (es.map (atR l)) w) := by
  have HR := Lib.hid hR; have HE := Lib.hid hE; have HX := Lib.hid hes; have hglt := hE.lt; have hmk := make_re es.length hl; clear hR hE hes; go_enter Tryz.func122, Tryz.ntmps122; go_wp2
  go_loopw [13] (fun y wr => opickInv l es w y wr) (fun y _ => es.length - (intOf y).toNat)
  case atStart =>
    exact ⟨0, Nat.zero_le _, rfl, room_made w zeroR (es.length * 6), by simp only [List.take_zero, List.map_nil]; unfold NodesAt; trivial, (Below.refl _ w).alloc (Nat.le_refl _) _⟩
  case round =>
    obtain ⟨i, hi, rfl, hroom, hnodes, hb⟩ := hrel; have HN := Lib.hid hnodes; have HM := Lib.hid hroom; clear hnodes hroom
    by_cases hlt : i < es.length
    · have hx := HX.out es[i] (List.getElem_mem hlt); have ci := HE.out.cell i (by simp; omega); rw [List.getElem_append_left hlt] at ci; replace ci := (hb.cell (p := ⟨g, i, none⟩) hglt).trans ci; (have htk : (es.take (i + 1)).map (atR l) = (es.take i).map (atR l) ++ [atR l es[i]] := by rw [List.take_succ_eq_append_getElem hlt, List.map_append]; rfl); (have hlen : ((es.take i).map (atR l)).length = i := by simp; omega); generalize es[i] = k at *; obtain ⟨b, off, hab, hblt, hnode⟩ := HR.out.kid hx; subst hab; have hkid := NodeAt.below hb _ hblt hnode; rw [atR_get hx] at htk; have HTK := Lib.hid htk; have HLEN := Lib.hid hlen; clear htk hlen; generalize l[k] = kid at *; obtain ⟨k', ⟨ta, tb, tc, td⟩, ks'⟩ := kid; obtain ⟨al', cap', ⟨c0, c1, c2, c3, c4, c5⟩, hre⟩ := hkid.read; simp only at c0 c1 c2 c3 c4 c5; have K := Lib.hid (ocloneR _ _ wr hre); clear hkid hnode hre; (have q1 : (i : Int) < (es.length : Int) := by omega); (have q2 : (k : Int) < (l.length : Int) := by omega); go_wp2_with fail; refine K.out.mono ?_; rintro e w3 ⟨v, rfl, hv, hb3⟩; obtain ⟨x0, x1, x2, x3, x4, bl, n', cp, rfl⟩ := cells_re hv; have hgk := HM.out.lt; have hroom : Room w3 w.heap.size (es.length * 6) := HM.out.of (hb3.block _ hgk); have hnodes : NodesAt (New (w.heap.size + 1)) w3 w.heap.size 0 ((es.take i).map (atR l)) := NodesAt.below hb3 _ hgk HN.out
      have hv3 := hv.imp (ok' := New (w.heap.size + 1)) fun b _ h => by
        unfold New at h ⊢; omega
      have hlen := HLEN.out; have hpush := nodes_push hroom (by rw [hlen]; omega) (by unfold New; omega) hnodes hv3; rw [hlen, ← HTK.out] at hpush; have hput := (put6_at hroom (off := i * 6) (by omega) (.int .u8 x0) (.int .u64 x1) (.int .u64 x2) (.int .u64 x3) (.int .u64 x4) (.slice bl n' cp)).1; have hbp := put6_below (hb.trans (hb3.mono hb.size)) (g := w.heap.size) (Nat.le_refl _) (i * 6) (.int .u8 x0) (.int .u64 x1) (.int .u64 x2) (.int .u64 x3) (.int .u64 x4) (.slice bl n' cp); obtain ⟨⟨z0, q0⟩, f0⟩ := hroom.cells (i * 6) (by omega); obtain ⟨⟨z1, q1'⟩, f1⟩ := hroom.cells (i * 6 + 1) (by omega); obtain ⟨⟨z2, q2'⟩, f2⟩ := hroom.cells (i * 6 + 2) (by omega); obtain ⟨⟨z3, q3⟩, f3⟩ := hroom.cells (i * 6 + 3) (by omega); obtain ⟨⟨z4, q4⟩, f4⟩ := hroom.cells (i * 6 + 4) (by omega); obtain ⟨⟨z5, q5⟩, f5⟩ := hroom.cells (i * 6 + 5) (by omega); unfold put6 at hpush hput hbp; have HPUSH := Lib.hid hpush; have HPUT := Lib.hid hput; have HBP := Lib.hid hbp; clear hv hb3 hroom hnodes hv3 hlen hpush hput hbp c0 c1 c2 c3 c4 c5 ci; go_wp2; exact ⟨⟨i + 1, by omega, by go_num, HPUT.out, HPUSH.out, HBP.out⟩, by simp [intOf]; omega⟩
    · have he : es.take i = es := List.take_of_length_le (by omega); rw [he] at HN; have hgk := HM.out.lt; have hrow : RowAt (New w.heap.size) wr (some ⟨w.heap.size, 0, none⟩) (es.map (atR l)) := .inr ⟨_, _, rfl, hgk, by unfold New; omega, NodesAt.go (ok := New (w.heap.size + 1)) ⟨Nat.le_refl _, fun b _ h => ⟨by unfold New at h ⊢; omega, rfl⟩⟩ _ rfl HN.out⟩; have HROW := Lib.hid hrow; clear hrow he; go_wp2; go_ret; exact ⟨_, by rw [List.length_map]; rfl, HROW.out, hb⟩
set_option maxHeartbeats 1000000 in
theorem sort_any {ok : Nat → Prop} (l : List Rx) (al : Option Addr) (cap : Nat) (w : World) (hl : l.length ≤ 1000000) (hR : RowAt ok w al l) :
    Calls Tryz.prog 99 #[.slice al l.length cap] w (RowNew (sortR l) w) := by
  have K1 := Lib.hid (places_any l al cap w hl hR); have HR := Lib.hid hR; clear hR; go_enter Tryz.func99, Tryz.ntmps99; go_wp2_with fail; refine K1.out.mono ?_; rintro e w1 ⟨g, ds, rfl, hg, hds, hI, hb⟩; have hlen := hds.length; have K2 := picked_any l al cap g l.length ds [] w1 (by omega) (HR.out.below hb) (by simpa using hI) (fun x hx => hds.lt hx); rw [placed_sort hds, hlen] at K2; have K := Lib.hid K2; clear K2 hds hI hlen; go_wp2_with fail; refine K.out.mono ?_; rintro e w2 ⟨al2, rfl, hrow, hb2⟩; have H := Lib.hid (hrow.imp (ok' := New w.heap.size) fun b _ h => Nat.le_trans hb.size h); replace hb := hb.trans (hb2.mono hb.size); clear hrow hb2; go_wp2; go_ret; exact ⟨al2, rfl, H.out, hb⟩
open Go.RowKit
theorem take_set_ge (l : List Nat) (n m x : Nat) (h : n ≤ m) : (l.set m x).take n = l.take n := by
  refine List.ext_getElem? fun i => ?_; rw [List.getElem?_take, List.getElem?_take, List.getElem?_set]
  by_cases e : i < n
  · rw [if_pos e, if_pos e, if_neg (by omega)]
  · rw [if_neg e, if_neg e]
theorem SortAt.wipe {w0 : World} {c : Nat} {al : Option Addr} {n cap g : Nat} (hg : w0.heap.size ≤ g) (hcg : c ≠ g) : ∀ (m o : Nat) (D : List Nat) (w : World), SortAt w0 c al n cap g D w → ∃ D', D'.take o = D.take o ∧ SortAt w0 c al n cap g D' (w.setCells g o (List.replicate m (.int .i64 0)))
  | 0, o, D, w, h => ⟨D, rfl, by simpa [World.setCells] using h⟩
  | m + 1, o, D, w, h => by
    have h1 := h.put hg hcg o 0; obtain ⟨D', e, h2⟩ := SortAt.wipe hg hcg m (o + 1) _ _ h1; refine ⟨D', ?_, by simpa [World.setCells, List.replicate_succ] using h2⟩; have := congrArg (List.take o) e; rw [List.take_take, List.take_take, Nat.min_eq_left (by omega), take_set_ge _ _ _ _ (Nat.le_refl _)] at this; exact this
theorem cpt_step_eq {l : List Rx} {ds : List Nat} {m : Nat} (h0 : m ≠ 0) (hm : m < ds.length) (h : ordR (atR l ds[m]) (atR l (ds[m - 1]'(by omega))) = 0) : cpt l ds (m + 1) = cpt l ds m := by
  have step : cpt l ds (m + 1) = if m = 0 ∨ ordR (atR l (ds.getD m 0)) (atR l (ds.getD (m - 1) 0)) ≠ 0 then cpt l ds m ++ [ds.getD m 0] else cpt l ds m := rfl; rw [step, if_neg]; intro hh
  rcases hh with hh | hh
  · exact h0 hh
  · apply hh
    simpa [List.getD, hm, show m - 1 < ds.length from by omega] using h
theorem cpt_step_ne {l : List Rx} {ds : List Nat} {m : Nat} (hm : m < ds.length) (h : m = 0 ∨ ordR (atR l ds[m]) (atR l (ds[m - 1]'(by omega))) ≠ 0) : cpt l ds (m + 1) = cpt l ds m ++ [ds[m]] := by
  have step : cpt l ds (m + 1) = if m = 0 ∨ ordR (atR l (ds.getD m 0)) (atR l (ds.getD (m - 1) 0)) ≠ 0 then cpt l ds m ++ [ds.getD m 0] else cpt l ds m := rfl; rw [step, if_pos]
  · simp [List.getD, hm]
  · rcases h with h | h
    · exact .inl h
    · right
      simpa [List.getD, hm, show m - 1 < ds.length from by omega] using h
def CptInv (l : List Rx) (ds D : List Nat) (m kk : Nat) : Prop := D.length = ds.length ∧ kk + 1 ≤ m ∧ m ≤ ds.length ∧ D.take kk = cpt l ds m ∧ kk = (cpt l ds m).length ∧ D.drop (m - 1) = ds.drop (m - 1)
theorem CptInv.at {l : List Rx} {ds D : List Nat} {m kk : Nat} (h : CptInv l ds D m kk) (j : Nat) (hj : m - 1 ≤ j) (h1 : j < D.length) (h2 : j < ds.length) : D[j] = ds[j] := by
  have e := h.2.2.2.2.2; have := congrArg (fun x => x[j - (m - 1)]?) e; simp only [List.getElem?_drop, show m - 1 + (j - (m - 1)) = j from by omega, List.getElem?_eq_getElem h1, List.getElem?_eq_getElem h2, Option.some.injEq] at this; exact this
theorem CptInv.skip {l : List Rx} {ds D : List Nat} {m kk : Nat} (h : CptInv l ds D m kk) (hm : m < ds.length) (he : ordR (atR l ds[m]) (atR l (ds[m - 1]'(by omega))) = 0) : CptInv l ds D (m + 1) kk := by
  obtain ⟨h1, h2, h3, h4, h5, h6⟩ := h; have e := cpt_step_eq (by omega) hm he; refine ⟨h1, by omega, by omega, by rw [e]; exact h4, by rw [e]; exact h5, ?_⟩; have := congrArg (List.drop 1) h6; simp only [List.drop_drop] at this; rw [show m + 1 - 1 = m - 1 + 1 from by omega]
  simpa [Nat.add_comm] using this
theorem CptInv.keep {l : List Rx} {ds D : List Nat} {m kk : Nat} (h : CptInv l ds D m kk) (hm : m < ds.length) (he : ordR (atR l ds[m]) (atR l (ds[m - 1]'(by omega))) ≠ 0) : CptInv l ds (D.set kk ds[m]) (m + 1) (kk + 1) := by
  obtain ⟨h1, h2, h3, h4, h5, h6⟩ := h; have e := cpt_step_ne hm (.inr he); refine ⟨by simp [h1], by omega, by omega, ?_, by rw [e]; simp [← h5], ?_⟩
  · rw [e, ← h4, List.take_succ_eq_append_getElem (by simp; omega)]; simp [take_set_ge]
  · rw [List.drop_set_of_lt (by omega)]; have := congrArg (List.drop 1) h6; simp only [List.drop_drop] at this; rw [show m + 1 - 1 = m - 1 + 1 from by omega]
    simpa [Nat.add_comm] using this
theorem cpt_all {l : List Rx} {ds : List Nat} : ∀ i, i ≤ ds.length → (∀ m (h : m < ds.length), m < i → m = 0 ∨ ordR (atR l ds[m]) (atR l (ds[m - 1]'(by omega))) ≠ 0) → cpt l ds i = ds.take i
  | 0, _, _ => by simp [cpt]
  | i + 1, hi, h => by
    rw [cpt_step_ne (by omega) (h i (by omega) (by omega)), cpt_all i (by omega) fun m h1 h2 => h m h1 (by omega), ← List.take_succ_eq_append_getElem]
def crunInv (l : List Rx) (ds : List Nat) (w0 : World) (c : Nat) (al : Option Addr) (cap g : Nat) (y : Value) (wr : World) : Prop := ∃ i : Nat, 1 ≤ i ∧ i ≤ ds.length ∧ y = .int .i64 i ∧ (∀ m (h : m < ds.length), m < i → m = 0 ∨ ordR (atR l ds[m]) (atR l (ds[m - 1]'(by omega))) ≠ 0) ∧ SortAt w0 c al l.length cap g ds wr
def moveInv (l : List Rx) (ds : List Nat) (w0 : World) (c : Nat) (al : Option Addr) (cap g i : Nat) (y z : Value) (wr : World) : Prop := ∃ (kk j : Nat) (D : List Nat), 1 ≤ j ∧ y = .int .i64 kk ∧ z = .int .i64 j ∧ CptInv l ds D (i + j) kk ∧ SortAt w0 c al l.length cap g D wr
def CompPost (l : List Rx) (ds : List Nat) (w0 : World) (c : Nat) (al : Option Addr) (cap g : Nat) (e : Ending) (w' : World) : Prop := ∃ Z, e = .returned (.slice (some ⟨g, 0, none⟩) (cpt l ds ds.length).length ds.length) ∧ SortAt w0 c al l.length cap g (cpt l ds ds.length ++ Z) w'
set_option maxRecDepth 100000 in
theorem zeroI : ∀ w, (zeroValue 3).run Tryz.prog w = .ok (.int .i64 0) w := fun _ => rfl
set_option maxRecDepth 100000 in
set_option maxHeartbeats 4000000 in
theorem compact_any {ok : Nat → Prop} (l : List Rx) (ds : List Nat) (al : Option Addr) (cap c g : Nat) (w0 w : World) (hl : ds.length ≤ 1000000) (hR : RowAt ok w0 al l) (hd : ∀ x ∈ ds, x < l.length) (hg : w0.heap.size ≤ g) (hcg : c ≠ g) (hS : SortAt w0 c al l.length cap g ds w) :
    Calls Tryz.prog 117 #[.slice (some ⟨g, 0, none⟩) ds.length ds.length, .func (.func 119) #[] #[.pointer (some ⟨c, 0, none⟩)]] w (CompPost l ds w0 c al cap g) := by
  have KC := Lib.hid fun W D (h : SortAt w0 c al l.length cap g D W) i k (hi : i < l.length) (hk : k < l.length) => eqAt l al cap c i k W (hR.below h.1) h.2.1 hi hk; have HS := Lib.hid hS; have HD := Lib.hid hd; clear hR hS hd
  by_cases h2 : ds.length < 2
  · (have d1 : (ds.length : Int) < 2 := by omega)
    have he : cpt l ds ds.length = ds := by
      rw [cpt_all ds.length (Nat.le_refl _) fun m h1 _ => .inl (by omega), List.take_length]
    have HE := Lib.hid he; clear he; go_enter Tryz.func117, Tryz.ntmps117; go_wp2; go_ret; exact ⟨[], by rw [HE.out]; rfl, by rw [HE.out, List.append_nil]; exact HS.out⟩
  · (have d1 : ¬ (ds.length : Int) < 2 := by omega); go_enter Tryz.func117, Tryz.ntmps117; go_wp2
    go_loopw [5] (fun y wr => crunInv l ds w0 c al cap g y wr) (fun y _ => ds.length - (intOf y).toNat)
    case atStart => exact ⟨1, Nat.le_refl _, by omega, rfl, fun m _ h => .inl (by omega), HS.out⟩
    case round =>
      obtain ⟨i, hi1, hi2, rfl, hall, hSr⟩ := hrel; clear HS
      by_cases hlt : i < ds.length
      · have hx := HD.out ds[i] (List.getElem_mem hlt); have hy := HD.out (ds[i - 1]'(by omega)) (List.getElem_mem _); have c1 := hSr.2.2.cell i hlt; have c2 := hSr.2.2.cell (i - 1) (by omega); have KE := Lib.hid (KC.out wr.drew ds (hSr.go (Below.refl _ _).drew) _ _ hx hy); have s1 := fun h => cpt_step_eq (l := l) (ds := ds) (m := i) (by omega) hlt h
        have s2 : ordR (atR l ds[i]) (atR l (ds[i - 1]'(by omega))) ≠ 0 → ∀ m (h : m < ds.length), m < i + 1 → m = 0 ∨ ordR (atR l ds[m]) (atR l (ds[m - 1]'(by omega))) ≠ 0 := fun hne m h hm => by
          by_cases e : m = i
          · subst e; exact .inr hne
          · exact hall m h (by omega)
        have htk := cpt_all i hi2 hall; obtain ⟨p, rfl⟩ : ∃ p, i = p + 1 := ⟨i - 1, by omega⟩; simp only [Nat.add_sub_cancel] at c2 KE s1 s2; have HS := Lib.hid hSr; have S1 := Lib.hid s1; have S2 := Lib.hid s2; have HTK := Lib.hid htk; clear hSr s1 s2 htk hall; generalize ds[p + 1] = x at *; generalize ds[p]'(by omega) = y at *; generalize ordR (atR l x) (atR l y) = q at *; (have p0 : (0 : Int) ≤ (p : Int) + 1 := by omega); (have p1 : (0 : Int) ≤ (p : Int) := by omega); (have d3 : (p : Int) + 1 < (ds.length : Int) := by omega); (have d4 : (p : Int) < (ds.length : Int) := by omega); (have r1 : IntKind.i64.wrap ((p : Int) + 1) = (p : Int) + 1 := by rw [IntKind.wrap_i64]; omega); (have r2 : IntKind.i64.wrap (p : Int) = (p : Int) := by rw [IntKind.wrap_i64]; omega); (have t1 : ((p : Int) + 1).toNat = p + 1 := by omega); (have t2 : ((p : Int)).toNat = p := by omega); rw [show ((p + 1 : Nat) : Int) = (p : Int) + 1 from by omega]; go_wp2_with fail
        go_still_tail 10, (by kernel_rfl)
        change wpList _ _ _ _ _ wr.drew
        go_wp2_with fail; refine KE.out.mono ?_; rintro e w1 ⟨rfl, hb1⟩; have HS1 := Lib.hid (HS.out.go ((Below.refl _ wr).drew.trans hb1)); clear hb1 c1 c2 KE HS
        by_cases hq : q = 0
        · subst hq
          have hin : CptInv l ds ds (p + 1 + 1) (p + 1) := by
            have e := S1.out rfl; rw [HTK.out] at e; exact ⟨rfl, Nat.le_refl _, by omega, by rw [e], by rw [e, List.length_take]; omega, rfl⟩
          have HIN := Lib.hid hin; clear hin S1 S2 HTK; (have n1 : ¬ ds.length = p + 1 := by omega); (have n2 : (p : Int) + 1 ≤ (ds.length : Int) := by omega); (have n3 : ¬ (ds.length : Int) < (p : Int) + 1 := by omega); go_wp2; generalize hE : ds.length - (p + 1) = e
          go_loopw [5, 7] (fun y z wr => moveInv l ds w0 c al cap g (p + 1) y z wr) (fun _ z _ => ds.length - (intOf z).toNat)
          case atStart => exact ⟨p + 1, 1, ds, Nat.le_refl _, by go_num, rfl, HIN.out, HS1.out⟩
          case round =>
            obtain ⟨kk, j, D, hj1, rfl, rfl, hI, hSr⟩ := hrel; clear HS1 HIN d3 d4 n1 n2 n3 r1 r2 t1 t2 p0 p1; obtain ⟨r, rfl⟩ : ∃ r, j = r + 1 := ⟨j - 1, by omega⟩; have hDl := hI.1; have hkk := hI.2.1; have hle := hI.2.2.1
            by_cases hlt2 : r + 1 < e
            · (have hm : p + 1 + (r + 1) < ds.length := by omega); (have hm' : p + 1 + r < ds.length := by omega); have hx := HD.out ds[p + 1 + (r + 1)] (List.getElem_mem hm); have hy := HD.out ds[p + 1 + r] (List.getElem_mem hm'); have c1 := hSr.2.2.cell (p + 1 + (r + 1)) (by omega); have c2 := hSr.2.2.cell (p + 1 + r) (by omega); rw [hI.at _ (by omega) (by omega) hm] at c1; rw [hI.at _ (by omega) (by omega) hm'] at c2; have c3 := hSr.2.2.cell kk (by omega); generalize D[kk]'(by omega) = old at c3; have f3 := hSr.2.2.free kk; have KE := Lib.hid (KC.out wr.drew D (hSr.go (Below.refl _ _).drew) _ _ hx hy); have s1 := fun h => hI.skip hm h; have s2 := fun h => hI.keep hm h; have s3 := fun W (hW : SortAt w0 c al l.length cap g D W) => hW.put hg hcg kk ds[p + 1 + (r + 1)]; simp only [show p + 1 + (r + 1) - 1 = p + 1 + r from by omega] at s1 s2; have HS := Lib.hid hSr; have S1 := Lib.hid s1; have S2 := Lib.hid s2; have S3 := Lib.hid s3; clear hSr s1 s2 s3 hI; generalize ds[p + 1 + (r + 1)] = x2 at *; generalize ds[p + 1 + r] = y2 at *; generalize ordR (atR l x2) (atR l y2) = q at *; have hglt := HS.out.2.2.lt; (have p0 : (0 : Int) ≤ (r : Int) + 1 := by omega); (have p1 : (0 : Int) ≤ (r : Int) := by omega); (have d3 : (r : Int) + 1 < (e : Int) := by omega); (have d4 : (r : Int) < (e : Int) := by omega); (have d5 : (kk : Int) < (ds.length : Int) := by omega); (have r1 : IntKind.i64.wrap ((r : Int) + 1) = (r : Int) + 1 := by rw [IntKind.wrap_i64]; omega); (have r2 : IntKind.i64.wrap (r : Int) = (r : Int) := by rw [IntKind.wrap_i64]; omega); (have t1 : ((r : Int) + 1).toNat = r + 1 := by omega); (have t2 : ((r : Int)).toNat = r := by omega); rw [show ((r + 1 : Nat) : Int) = (r : Int) + 1 from by omega]; go_wp2_with fail
              go_still_tail 10, (by kernel_rfl)
              change wpList _ _ _ _ _ wr.drew
              go_wp2_with fail; refine KE.out.mono ?_; rintro _ w2 ⟨rfl, hb1⟩; have hbd : Below wr.heap.size wr w2 := (Below.refl _ wr).drew.trans hb1; have HS2 := Lib.hid (HS.out.go hbd); replace c1 := (hbd.cell (p := ⟨g, p + 1 + (r + 1), none⟩) hglt).trans c1; replace c3 := (hbd.cell (p := ⟨g, kk, none⟩) hglt).trans c3; replace f3 := HS2.out.2.2.free kk; replace hglt : g < w2.heap.size := Nat.lt_of_lt_of_le hglt hbd.size; clear hb1 hbd c2 KE HS
              by_cases hq : q = 0
              · subst hq; have HI := Lib.hid (S1.out rfl); clear S1 S2 S3; go_wp2; exact ⟨⟨kk, r + 1 + 1, D, by omega, rfl, by go_num, by simpa [Nat.add_assoc] using HI.out, HS2.out⟩, by simp [intOf]; omega⟩
              · (have e0 : (q == 0) = false := by simpa using hq); have HI := Lib.hid (S2.out hq); have HS3 := Lib.hid (S3.out _ HS2.out); clear hq S1 S2 S3 HS2; rw [e0]; go_wp2; exact ⟨⟨kk + 1, r + 1 + 1, D.set kk x2, by omega, by go_num, by go_num, by simpa [Nat.add_assoc] using HI.out, HS3.out⟩, by simp [intOf]; omega⟩
            · (have hend : p + 1 + (r + 1) = ds.length := by omega)
              have hcl : ∀ ty, (Builtin.clear_ #[85] ty #[.slice (some ⟨g, kk, none⟩) (ds.length - kk) (ds.length - kk)]).run Tryz.prog wr = .ok (.tuple #[]) (wr.setCells g kk (List.replicate (ds.length - kk) (.int .i64 0))) :=
                fun ty => Lib.run_clear_slice wr _ _ ty _ Tryz.underlying85 zeroI rfl rfl g kk _ _ (by omega) (fun j hj => by rw [hSr.2.2.cell (kk + j) (by omega)]; rfl) (fun j _ => hSr.2.2.free (kk + j))
              obtain ⟨D', hD', hS'⟩ := SortAt.wipe hg hcg (ds.length - kk) kk D wr hSr; rw [hend] at hI
              have hfin : D' = cpt l ds ds.length ++ D'.drop kk := by
                rw [← hI.2.2.2.1, ← hD', List.take_append_drop]
              have hkl := hI.2.2.2.2.1; rw [hfin] at hS'; have HS2 := Lib.hid hS'; have HKL := Lib.hid hkl; clear hI hSr hfin hS' hD' hkl; (have d3 : ¬ (r : Int) + 1 < (e : Int) := by omega); (have n1 : ¬ ds.length = kk := by omega); (have n2 : (kk : Int) ≤ (ds.length : Int) := by omega); (have n4 : kk ≤ ds.length := by omega); rw [show ((r + 1 : Nat) : Int) = (r : Int) + 1 from by omega]; go_wp2; go_ret; exact ⟨_, by rw [← HKL.out]; rfl, HS2.out⟩
        · (have e0 : (q == 0) = false := by simpa using hq); have HA := Lib.hid (S2.out hq); clear hq; rw [e0]; go_wp2; exact ⟨⟨p + 1 + 1, by omega, by omega, by go_num, HA.out, HS1.out⟩, by simp [intOf]; omega⟩
      · (have he : i = ds.length := by omega)
        have hc : cpt l ds ds.length = ds := by
          subst he; have := cpt_all ds.length (Nat.le_refl _) hall
          rwa [List.take_length] at this
        have HC := Lib.hid hc; have HS := Lib.hid hSr; (have d5 : ¬ (i : Int) < (ds.length : Int) := by omega); clear hc hSr hall he; go_wp2; go_ret; exact ⟨[], by rw [HC.out]; rfl, by rw [HC.out, List.append_nil]; exact HS.out⟩
end Go.Proofs.YthgghaaddankoaaGreatDoor
