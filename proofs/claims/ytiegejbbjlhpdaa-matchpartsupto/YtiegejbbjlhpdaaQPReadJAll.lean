/- Lemmas of mine, merged: QPReadJ, QPRdrB, QPRdrE. -/
import Derived.WalkKit
import Derived.WalkSpells
import Derived.WalkLawsBesides
import Derived.Lib.OthersKept
import Derived.Lib.Hide
import Derived.Deep.QuietTactic
import Derived.BigQuiet
import Derived.Laws.DeepStrings4
import Derived.Deep.RegionWith
import Derived.RegionTactic
import Derived.Test.YtiegejbbjlhpdaaQPRexEAll
import Derived.Test.YtiegejbbjlhpdaaQPSetJAll
import Derived.Test.YtiegejbbjlhpdaaRows
import Derived.Test.YtiegejbbjlhpdaaQPSetEAll
import Derived.Test.YtiegejbbjlhpdaaQPRexBAll
import Derived.Test.YtiegejbbjlhpdaaQPRexKAll
import Derived.Test.YtiegejbbjlhpdaaQPNumHexAAll
/- Lemmas of mine. -/
namespace Go.Proofs.Ytiegejbbjlhpdaa
open Go.RowKit
noncomputable def resOf (s : ByteArray) : PR := Classical.choose (PX.total _ s.data.toList (Nat.le_refl _)).2.2
theorem resOf_px (s : ByteArray) : PX .alt s.data.toList (resOf s) := Classical.choose_spec (PX.total _ s.data.toList (Nat.le_refl _)).2.2
noncomputable def rdOf (s : ByteArray) : RD := topR s.size (resOf s)
theorem rdOf_px {s : ByteArray} {res : PR} (h : PX .alt s.data.toList res) : rdOf s = topR s.size res := by
  unfold rdOf
  rw [(resOf_px s).det h]
def StrsAt (w : World) (al : Option Addr) (L : List ByteArray) : Prop := L = [] ∨ ∃ b off, al = some ⟨b, off, none⟩ ∧ b < w.heap.size ∧ ∀ i (h : i < L.length), w.cell? ⟨b, off + i, none⟩ = some (.string L[i])
def ReadC : Prop := ∀ (s : ByteArray) (w : World), s.size ≤ 1000000000 → Calls Try.prog 24 #[.string s] w (RdPost w (rdOf s))
theorem strs_one (w : World) (s : ByteArray) {g : Nat} (hg : g = w.heap.size) (t : TypeId) : StrsAt (w.alloc (.cells #[.string s] t)) (some ⟨g, 0, none⟩) [s] := by
  subst hg
  refine .inr ⟨_, 0, rfl, by simp, fun i h => ?_⟩
  match i, h with
  | 0, _ => simp
theorem ex_atom (c : UInt8) (l : List UInt8) (hc : sgn (c :: l) = .ok c.toNat l) (h1 : c ≠ 46) (h2 : c ≠ 91) (h3 : c ≠ 40) : PX .atom (c :: l) (.ok (.cls (rngW c.toNat c.toNat)) l) := PX.sign (notAt_cons h1) (notAt_cons h2) (notAt_cons h3) hc
open Go.RowKit
theorem hex_fin : ∀ n : Fin 256, hexErr ⟨#[48, UInt8.ofNat n.1]⟩ = (match hexV (UInt8.ofNat n.1) with | some _ => 0 | none => 2) ∧ hexBytes ⟨#[48, UInt8.ofNat n.1]⟩ = (match hexV (UInt8.ofNat n.1) with | some x => [UInt8.ofNat x] | none => []) := by decide +kernel
theorem hex_yes {c : UInt8} {x : Nat} (h : hexV c = some x) : hexErr ⟨#[48, c]⟩ = 0 ∧ hexBytes ⟨#[48, c]⟩ = [UInt8.ofNat x] := by
  have := hex_fin ⟨c.toNat, c.toNat_lt⟩
  simp only [UInt8.ofNat_toNat, h] at this
  exact this
theorem hex_no {c : UInt8} (h : hexV c = none) : hexErr ⟨#[48, c]⟩ = 2 ∧ hexBytes ⟨#[48, c]⟩ = [] := by
  have := hex_fin ⟨c.toNat, c.toNat_lt⟩
  simp only [UInt8.ofNat_toNat, h] at this
  exact this
theorem hex_none : hexErr ⟨#[48]⟩ = 2 ∧ hexBytes ⟨#[48]⟩ = [] := by decide +kernel
theorem but_trans {D : Nat} {w w1 w2 : World} (h : But D w.heap.size w w1) (k : But D w1.heap.size w1 w2) : But D w.heap.size w w2 := h.trans (k.mono h.size)
theorem RdB.noByte {w : World} {D : Nat} {s : ByteArray} {k : Nat} {vl : Value} (h : RdB w D s k vl) {off : Nat} {x : Int} (hc : w.cell? ⟨D, off, none⟩ = some (.int .u8 x)) (hv : ∀ y, vl ≠ .int .u8 y) : False := by
  unfold RdB at h
  rw [Lib.cell_of_heap h] at hc
  match off, hc with
  | 0, hc => simp at hc
  | 1, hc => simp at hc
  | 2, hc => simp at hc; exact hv _ hc
  | n + 3, hc => simp at hc
def digV (l : List UInt8) : Option Nat := match l with
  | [] => none
  | c :: _ => hexV c
def hexS (l : List UInt8) : ByteArray := ⟨(48 :: l.take 1).toArray⟩
theorem digV_yes {l : List UInt8} {x : Nat} (h : digV l = some x) : hexErr (hexS l) = 0 ∧ hexBytes (hexS l) = [UInt8.ofNat x] := by
  cases l with
  | nil => cases h
  | cons c t => exact hex_yes h
theorem digV_no {l : List UInt8} (h : digV l = none) : hexErr (hexS l) = 2 ∧ hexBytes (hexS l) = [] := by
  cases l with
  | nil => exact hex_none
  | cons c t => exact hex_no h
theorem hexS_size (l : List UInt8) : (hexS l).size ≤ 2 := by
  unfold hexS
  show (48 :: l.take 1).toArray.size ≤ 2
  simp; omega
theorem hexS_add (l : List UInt8) : (⟨#[48]⟩ : ByteArray) ++ frS l = hexS l := by
  apply ByteArray.ext
  unfold hexS frS
  simp
theorem frS_size (l : List UInt8) : ¬ 9223372036854775807 < 1 + (frS l).size := by
  have : (frS l).size ≤ 1 := by
    unfold frS
    show (l.take 1).toArray.size ≤ 1
    simp; omega
  omega
set_option maxHeartbeats 1000000 in
theorem digit_yes {w : World} {D : Nat} {s : ByteArray} {k x : Nat} {vl : Value} (h : RdB w D s k vl) (hs : s.size ≤ 1000000000) (hk : k ≤ s.size) (hv : ∀ y, vl ≠ .int .u8 y) (hx : digV (tl s k) = some x) (hx16 : x < 16) :
    Calls Try.prog 76 #[.pointer (some ⟨D, 0, none⟩)] w fun e w' => e = .returned (.int .u8 x) ∧ RdB w' D s (k + 1) vl ∧ But D w.heap.size w w' := by
  have KF := Lib.hid (front_any h hs hk)
  obtain ⟨q1, q2⟩ := digV_yes hx
  have KH := Lib.hid fun W => readHex_any (hexS (tl s k)) W (by have := hexS_size (tl s k); unfold maxLen; omega) (by have := hexS_size (tl s k); omega)
  rw [q1, q2] at KH
  have H := Lib.hid h
  have hadd := hexS_add (tl s k)
  have hsz := frS_size (tl s k)
  have wk : IntKind.i64.wrap ((k : Int) + 1) = (k : Int) + 1 := by rw [IntKind.wrap_i64]; omega
  have KM := Lib.hid must_yes
  clear h hx q1 q2
  go_enter Try.func76, Try.ntmps76
  go_wp2_with fail
  refine KF.out.mono ?_
  rintro e w1 ⟨rfl, hb1⟩
  go_wp2_with fail
  refine (KH.out _).mono ?_
  rintro e w2 ⟨al, cp, rfl, hb2, hB⟩
  have hb := hb1.trans (hb2.mono hb1.size)
  have H2 := Lib.hid (H.out.below hb)
  have HB := Lib.hid hb
  have hbyte : (UInt8.ofNat x).toNat = x := UInt8.toNat_ofNat_of_lt' (by show x < 256; omega)
  obtain ⟨b, off, rfl, hlt, hc⟩ : ∃ b off, al = some ⟨b, off, none⟩ ∧ b < w2.heap.size ∧ w2.cell? ⟨b, off, none⟩ = some (.int .u8 x) := by
    obtain ⟨_, h | ⟨b, off, rfl, hlt, hc⟩⟩ := hB
    · simp at h
    · have := hc 0 (by simp)
      simp only [List.getElem_cons_zero, hbyte] at this
      exact ⟨b, off, rfl, hlt, this⟩
  have hbD : ¬ b = D := fun e => by subst e; exact H2.out.noByte hc hv
  have hbD' : ¬ D = b := fun e => hbD e.symm
  clear hb1 hb2 hB hb hbyte hadd hsz
  go_wp2_with fail
  refine (KM.out _ _).mono ?_
  rintro e w3 ⟨rfl, rfl⟩
  obtain ⟨c0, c1, c2⟩ := H2.out.cells
  obtain ⟨f0, f1, f2⟩ := H2.out.frozen
  go_wp2
  go_ret
  exact ⟨rfl, H2.out.go _, (But.of HB.out).set _ _⟩
set_option maxHeartbeats 1000000 in
theorem digit_no {w : World} {D : Nat} {s : ByteArray} {k : Nat} {vl : Value} (h : RdB w D s k vl) (hs : s.size ≤ 1000000000) (hk : k ≤ s.size) (hx : digV (tl s k) = none) :
    Calls Try.prog 76 #[.pointer (some ⟨D, 0, none⟩)] w fun e w' => e = thr k ∧ Below w.heap.size w w' := by
  have KF := Lib.hid (front_any h hs hk)
  obtain ⟨q1, q2⟩ := digV_no hx
  have KH := Lib.hid fun W => readHex_any (hexS (tl s k)) W (by have := hexS_size (tl s k); unfold maxLen; omega) (by have := hexS_size (tl s k); omega)
  rw [q1, q2] at KH
  have H := Lib.hid h
  have hadd := hexS_add (tl s k)
  have hsz := frS_size (tl s k)
  clear h hx q1 q2
  go_enter Try.func76, Try.ntmps76
  go_wp2_with fail
  refine KF.out.mono ?_
  rintro e w1 ⟨rfl, hb1⟩
  go_wp2_with fail
  refine (KH.out _).mono ?_
  rintro e w2 ⟨al, cp, rfl, hb2, hB⟩
  have hb := hb1.trans (hb2.mono hb1.size)
  have KM := Lib.hid (must_no (H.out.below hb))
  have HB := Lib.hid hb
  clear hb1 hb2 hB hb hadd hsz
  go_wp2_with fail
  refine KM.out.mono ?_
  rintro e w3 ⟨rfl, rfl⟩
  unfold thr
  go_wp2
  exact ⟨rfl, rfl, HB.out⟩
theorem tl_tail (s : ByteArray) (k : Nat) : (tl s k).tail = tl s (k + 1) := by unfold tl; rw [List.tail_drop]
theorem sgn_dig0 {l : List UInt8} (h : digV l = none) : sgn (92 :: l) = .bad l := by
  cases l with
  | nil => exact sgn_92_nil
  | cons d t => exact sgn_92_no t h
theorem sgn_dig1 {l : List UInt8} {x : Nat} (h : digV l = some x) (h' : digV l.tail = none) : sgn (92 :: l) = .bad l.tail := by
  cases l with
  | nil => cases h
  | cons d t => cases t with
    | nil => exact sgn_92_one h
    | cons d' u => exact sgn_92_two u h h'
theorem sgn_dig2 {l : List UInt8} {x y : Nat} (h : digV l = some x) (h' : digV l.tail = some y) : sgn (92 :: l) = .ok (16 * x + y) l.tail.tail := by
  cases l with
  | nil => cases h
  | cons d t => cases t with
    | nil => cases h'
    | cons d' u => exact sgn_92_yes u h h'
theorem digV_lt {l : List UInt8} {x : Nat} (h : digV l = some x) : x < 16 ∧ l ≠ [] := by
  cases l with
  | nil => cases h
  | cons d t => exact ⟨hexV_lt h, by simp⟩
def SgnPost (D : Nat) (s : ByteArray) (vl : Value) (w : World) (r : SR) (e : Ending) (w' : World) : Prop := But D w.heap.size w w' ∧ match r with
  | .ok b l1 => e = .returned (.int .u8 (b : Int)) ∧ RdB w' D s (s.size - l1.length) vl
  | .bad r => e = thr (s.size - r.length)
theorem sgnPost_bad {D : Nat} {s : ByteArray} {vl : Value} {w w' : World} {k : Nat} {e : Ending} (he : e = thr k) (hb : But D w.heap.size w w') (hk : k ≤ s.size) : SgnPost D s vl w (.bad (tl s k)) e w' := by
  refine ⟨hb, ?_⟩
  show e = thr _
  rw [he, tl_len, show s.size - (s.size - k) = k from by omega]
theorem sgnPost_ok {D : Nat} {s : ByteArray} {vl : Value} {w w' : World} {k b : Nat} {e : Ending} (he : e = .returned (.int .u8 (b : Int))) (hr : RdB w' D s k vl) (hb : But D w.heap.size w w') (hk : k ≤ s.size) : SgnPost D s vl w (.ok b (tl s k)) e w' := by
  refine ⟨hb, he, ?_⟩
  rw [tl_len, show s.size - (s.size - k) = k from by omega]; exact hr
def OneB (f : ByteArray) (c : UInt8) : Prop := f = ⟨#[c]⟩
theorem frS_one (c : UInt8) (t : List UInt8) : OneB (frS (c :: t)) c := rfl
theorem OneB.list {f : ByteArray} {c : UInt8} (h : OneB f c) : f.toList = [c] := by
  rw [h, Go.ByteArray.toList_eq]
theorem OneB.size {f : ByteArray} {c : UInt8} (h : OneB f c) : 0 < f.size ∧ f.size = 1 := by
  rw [h]
  exact ⟨Nat.zero_lt_one, rfl⟩
theorem OneB.get {f : ByteArray} {c : UInt8} (h : OneB f c) (hs : 0 < f.size) : f[0] = c := by
  unfold OneB at h
  subst h
  rfl
theorem own1_fin : ∀ n : Fin 256, (signL n.1 == [UInt8.ofNat n.1]) = ownB (UInt8.ofNat n.1) := by decide +kernel
theorem sign_own1 (c : UInt8) : (signL c.toNat == [c]) = ownB c := by
  have := own1_fin ⟨c.toNat, c.toNat_lt⟩
  simpa using this
set_option maxHeartbeats 2000000 in
theorem rsign_end {w : World} {D : Nat} {s : ByteArray} {k : Nat} {vl : Value} (h : RdB w D s k vl) (hs : s.size ≤ 1000000000) (hk : k = s.size) :
    Calls Try.prog 68 #[.pointer (some ⟨D, 0, none⟩)] w (SgnPost D s vl w (sgn (tl s k))) := by
  have KF := Lib.hid (front_any h hs (by omega))
  have hz : tl s k = [] := tl_nil s k (by omega)
  have hsg : sgn (tl s k) = .bad (tl s k) := by rw [hz]; rfl
  rw [hsg]
  rw [hz] at KF
  have d1 : (frS []).toList = [] := by rw [Go.ByteArray.toList_eq]; rfl
  have H := Lib.hid h
  generalize frS [] = f at *
  have d2 : (f.toList == [92]) = false := by rw [d1]; rfl
  clear h hz hsg
  go_enter Try.func68, Try.ntmps68
  go_wp2_with fail
  refine KF.out.mono ?_
  rintro e w1 ⟨rfl, hb1⟩
  have KM := Lib.hid (must_no (H.out.below hb1))
  go_wp2_with fail
  refine KM.out.mono ?_
  rintro e w3 ⟨rfl, rfl⟩
  unfold thr
  go_wp2
  exact ⟨rfl, sgnPost_bad rfl (But.of hb1) (by omega)⟩
set_option maxHeartbeats 2000000 in
theorem rsign_own {w : World} {D : Nat} {s : ByteArray} {k : Nat} {vl : Value} (h : RdB w D s k vl) (hs : s.size ≤ 1000000000) (hk : k < s.size) (h92 : s[k] ≠ 92) :
    Calls Try.prog 68 #[.pointer (some ⟨D, 0, none⟩)] w (SgnPost D s vl w (sgn (tl s k))) := by
  have KF := Lib.hid (front_any h hs (by omega))
  have hz := tl_cons s k hk
  rw [hz] at KF
  have h1 := frS_one s[k] (tl s (k + 1))
  have hsg : sgn (tl s k) = if ownB s[k] = true then .ok s[k].toNat (tl s (k + 1)) else .bad (tl s k) := by rw [hz]; exact sgn_own _ _ h92
  rw [hsg]
  have H := Lib.hid h
  generalize frS (s[k] :: tl s (k + 1)) = f at *
  have hn := s[k].toNat_lt
  have HC := Lib.hid h1.list
  have d1 : (f.toList == [92]) = false := by rw [HC.out]; simp; exact h92
  have d2 : f.toList.isEmpty = false := by rw [HC.out]; rfl
  have d3 := h1.size.1
  have d4 : f[0].toNat = s[k].toNat := by rw [h1.get d3]
  have d5 : ¬ f.toList = [] := by rw [HC.out]; simp
  have KS := Lib.hid fun W => sign_any s[k].toNat W hn
  have wk : IntKind.i64.wrap ((k : Int) + 1) = (k : Int) + 1 := by rw [IntKind.wrap_i64]; omega
  clear h hz hsg h92
  cases ho : ownB s[k] with
  | true =>
    rw [if_pos rfl]
    have HO := Lib.hid ho
    clear ho
    go_enter Try.func68, Try.ntmps68
    go_wp2_with fail
    refine KF.out.mono ?_
    rintro e w1 ⟨rfl, hb1⟩
    go_wp2_with fail
    refine (KS.out _).mono ?_
    rintro e w2 ⟨rfl, hb2⟩
    have hb := hb1.trans (hb2.mono hb1.size)
    have HB := Lib.hid hb
    have H2 := Lib.hid (H.out.below hb)
    have d6 : (signL s[k].toNat == f.toList) = true := by rw [HC.out, sign_own1, HO.out]
    have KM := Lib.hid must_yes
    clear h1 hb hb1 hb2
    go_wp2_with fail
    refine (KM.out _ _).mono ?_
    rintro e w3 ⟨rfl, rfl⟩
    obtain ⟨c0, c1, c2⟩ := H2.out.cells
    obtain ⟨f0, f1, f2⟩ := H2.out.frozen
    go_wp2
    go_ret
    exact sgnPost_ok rfl (H2.out.go (k + 1)) ((But.of HB.out).set _ _) (by omega)
  | false =>
    rw [if_neg (by simp)]
    have HO := Lib.hid ho
    clear ho
    go_enter Try.func68, Try.ntmps68
    go_wp2_with fail
    refine KF.out.mono ?_
    rintro e w1 ⟨rfl, hb1⟩
    go_wp2_with fail
    refine (KS.out _).mono ?_
    rintro e w2 ⟨rfl, hb2⟩
    have hb := hb1.trans (hb2.mono hb1.size)
    have HB := Lib.hid hb
    have H2 := Lib.hid (H.out.below hb)
    have d6 : (signL s[k].toNat == f.toList) = false := by rw [HC.out, sign_own1, HO.out]
    have KM := Lib.hid (must_no H2.out)
    clear h1 hb hb1 hb2
    go_wp2_with fail
    refine KM.out.mono ?_
    rintro e w3 ⟨rfl, rfl⟩
    unfold thr
    go_wp2
    exact ⟨rfl, sgnPost_bad rfl (But.of HB.out) (by omega)⟩
set_option maxHeartbeats 2000000 in
theorem rsign_hex {w : World} {D : Nat} {s : ByteArray} {k : Nat} {vl : Value} (h : RdB w D s k vl) (hs : s.size ≤ 1000000000) (hk : k < s.size) (hv : ∀ y, vl ≠ .int .u8 y) (h92 : s[k] = 92) :
    Calls Try.prog 68 #[.pointer (some ⟨D, 0, none⟩)] w (SgnPost D s vl w (sgn (tl s k))) := by
  have KF := Lib.hid (front_any h hs (by omega))
  have hz := tl_cons s k hk
  rw [hz, h92] at KF
  rw [hz, h92]
  have h1 := frS_one 92 (tl s (k + 1))
  have H := Lib.hid h
  generalize frS (92 :: tl s (k + 1)) = f at *
  have d1 : (f.toList == [92]) = true := by rw [h1.list]; rfl
  have wk : IntKind.i64.wrap ((k : Int) + 1) = (k : Int) + 1 := by rw [IntKind.wrap_i64]; omega
  have ht := tl_tail s (k + 1)
  clear h hz h92 h1
  cases hx : digV (tl s (k + 1)) with
  | none =>
    rw [sgn_dig0 hx]
    have HX := Lib.hid hx
    clear hx ht
    go_enter Try.func68, Try.ntmps68
    go_wp2_with fail
    refine KF.out.mono ?_
    rintro e w1 ⟨rfl, hb1⟩
    have H1 := Lib.hid (H.out.below hb1)
    obtain ⟨c0, c1, c2⟩ := H1.out.cells
    obtain ⟨f0, f1, f2⟩ := H1.out.frozen
    have KD := Lib.hid (digit_no (H1.out.go (k + 1)) hs (by omega) HX.out)
    go_wp2_with fail
    refine KD.out.mono ?_
    rintro e w2 ⟨rfl, hb2⟩
    unfold thr
    go_wp2
    exact ⟨rfl, sgnPost_bad rfl (but_trans ((But.of hb1).set _ _) (But.of hb2)) (by omega)⟩
  | some x =>
    obtain ⟨hx16, hne⟩ := digV_lt hx
    have hk2 : k + 1 < s.size := by
      rcases Nat.lt_or_ge (k + 1) s.size with h | h
      · exact h
      · exact absurd (tl_nil s _ h) hne
    cases hy : digV (tl s (k + 2)) with
    | none =>
      rw [sgn_dig1 hx (by rw [ht]; exact hy), ht]
      have HX := Lib.hid hx
      have HY := Lib.hid hy
      clear hx ht hy hne
      go_enter Try.func68, Try.ntmps68
      go_wp2_with fail
      refine KF.out.mono ?_
      rintro e w1 ⟨rfl, hb1⟩
      have H1 := Lib.hid (H.out.below hb1)
      obtain ⟨c0, c1, c2⟩ := H1.out.cells
      obtain ⟨f0, f1, f2⟩ := H1.out.frozen
      have KD := Lib.hid (digit_yes (H1.out.go (k + 1)) hs (by omega) hv HX.out hx16)
      have BT := Lib.hid ((But.of hb1).set (g := D) 1 (.int .i64 ((k + 1 : Nat) : Int)))
      clear hb1
      go_wp2_with fail
      refine KD.out.mono ?_
      rintro e w2 ⟨rfl, hr2, hb2⟩
      have KE := Lib.hid (digit_no hr2 hs (by omega) HY.out)
      have BT2 := Lib.hid (but_trans BT.out hb2)
      clear hr2 hb2 c0 c1 c2 f0 f1 f2
      go_wp2_with fail
      refine KE.out.mono ?_
      rintro e w3 ⟨rfl, hb3⟩
      unfold thr
      go_wp2
      exact ⟨rfl, sgnPost_bad rfl (but_trans BT2.out (But.of hb3)) (by omega)⟩
    | some y =>
      obtain ⟨hy16, hne2⟩ := digV_lt hy
      have hk3 : k + 2 < s.size := by
        rcases Nat.lt_or_ge (k + 2) s.size with h | h
        · exact h
        · exact absurd (tl_nil s _ h) hne2
      rw [sgn_dig2 hx (by rw [ht]; exact hy), ht, tl_tail]
      have w16 : IntKind.u8.wrap (16 * (x : Int)) = 16 * (x : Int) := by rw [IntKind.wrap_u8]; omega
      have w17 : IntKind.u8.wrap (16 * (x : Int) + (y : Int)) = ((16 * x + y : Nat) : Int) := by rw [IntKind.wrap_u8]; omega
      have HX := Lib.hid hx
      have HY := Lib.hid hy
      clear hx ht hy hne hne2
      go_enter Try.func68, Try.ntmps68
      go_wp2_with fail
      refine KF.out.mono ?_
      rintro e w1 ⟨rfl, hb1⟩
      have H1 := Lib.hid (H.out.below hb1)
      obtain ⟨c0, c1, c2⟩ := H1.out.cells
      obtain ⟨f0, f1, f2⟩ := H1.out.frozen
      have KD := Lib.hid (digit_yes (H1.out.go (k + 1)) hs (by omega) hv HX.out hx16)
      have BT := Lib.hid ((But.of hb1).set (g := D) 1 (.int .i64 ((k + 1 : Nat) : Int)))
      clear hb1
      go_wp2_with fail
      refine KD.out.mono ?_
      rintro e w2 ⟨rfl, hr2, hb2⟩
      have KE := Lib.hid (digit_yes hr2 hs (by omega) hv HY.out hy16)
      have BT2 := Lib.hid (but_trans BT.out hb2)
      clear hr2 hb2 c0 c1 c2 f0 f1 f2
      go_wp2_with fail
      refine KE.out.mono ?_
      rintro e w3 ⟨rfl, hr3, hb3⟩
      have HR3 := Lib.hid hr3
      have BT3 := Lib.hid (but_trans BT2.out hb3)
      clear hr3 hb3
      go_wp2
      go_ret
      exact sgnPost_ok (by simp) HR3.out BT3.out (by omega)
theorem rsign_any {w : World} {D : Nat} {s : ByteArray} {k : Nat} {vl : Value} (h : RdB w D s k vl) (hs : s.size ≤ 1000000000) (hk : k ≤ s.size) (hv : ∀ y, vl ≠ .int .u8 y) :
    Calls Try.prog 68 #[.pointer (some ⟨D, 0, none⟩)] w (SgnPost D s vl w (sgn (tl s k))) := by
  by_cases hlt : k < s.size
  · by_cases h92 : s[k] = 92
    · exact rsign_hex h hs hlt hv h92
    · exact rsign_own h hs hlt h92
  · exact rsign_end h hs (by omega)
open Go.RowKit
theorem lpos {s : ByteArray} {i : Nat} {l : List UInt8} (h : l <:+ tl s i) : ∃ k, k ≤ s.size ∧ s.size - l.length = k ∧ l = tl s k ∧ l.length = s.size - k := by
  obtain ⟨h1, h2⟩ := tl_suffix h
  exact ⟨s.size - l.length, by omega, rfl, h1, by omega⟩
theorem pcons {s : ByteArray} {i : Nat} {c : UInt8} {t : List UInt8} (h : tl s i = c :: t) : i < s.size ∧ tl s (i + 1) = t ∧ ∃ hi : i < s.size, s[i] = c := by
  have hi : i < s.size := by
    rcases Nat.lt_or_ge i s.size with h' | h'
    · exact h'
    · rw [tl_nil s i h'] at h; cases h
  rw [tl_cons s i hi] at h
  cases h
  exact ⟨hi, rfl, hi, rfl⟩
inductive IR where
  | ok (s : Ws) (l : List UInt8)
  | bad (l : List UInt8)
def itemR (l : List UInt8) : IR := match sgn l with
  | .bad r => .bad r
  | .ok b l1 => match l1 with
    | [] => .ok (rngW b b) []
    | c :: l2 => if c = 45 then (match sgn l2 with
      | .bad r => .bad r
      | .ok b' l3 => if b' < b then .bad l2 else .ok (rngW b b') l3) else .ok (rngW b b) (c :: l2)
theorem item_bad1 {l r : List UInt8} (h : sgn l = .bad r) : itemR l = .bad r := by unfold itemR; rw [h]
theorem item_one {l l1 : List UInt8} {b : Nat} (h : sgn l = .ok b l1) (hn : NotAt 45 l1) : itemR l = .ok (rngW b b) l1 := by
  unfold itemR; rw [h]
  cases l1 with
  | nil => rfl
  | cons c t =>
    have : ¬ c = 45 := fun e => hn t (by rw [e])
    simp only [if_neg this]
theorem item_bad2 {l l2 r : List UInt8} {b : Nat} (h : sgn l = .ok b (45 :: l2)) (h2 : sgn l2 = .bad r) : itemR l = .bad r := by
  unfold itemR; rw [h]; simp only [if_true, h2]
theorem item_less {l l2 l3 : List UInt8} {b b' : Nat} (h : sgn l = .ok b (45 :: l2)) (h2 : sgn l2 = .ok b' l3) (hl : b' < b) : itemR l = .bad l2 := by
  unfold itemR; rw [h]; simp only [if_true, h2, if_pos hl]
theorem item_range {l l2 l3 : List UInt8} {b b' : Nat} (h : sgn l = .ok b (45 :: l2)) (h2 : sgn l2 = .ok b' l3) (hl : b ≤ b') : itemR l = .ok (rngW b b') l3 := by
  have : ¬ b' < b := by omega
  unfold itemR; rw [h]; simp only [if_true, h2, if_neg this]
def ItemPost (D : Nat) (s : ByteArray) (vl : Value) (w : World) (r : IR) (e : Ending) (w' : World) : Prop := But D w.heap.size w w' ∧ match r with
  | .ok q l1 => e = .returned q.v ∧ RdB w' D s (s.size - l1.length) vl
  | .bad r => e = thr (s.size - r.length)
theorem item_done {D : Nat} {s : ByteArray} {vl : Value} {w w3 : World} {q : Ws} {l1 : List UInt8} {k1 g : Nat} {e : Ending} {v0 v1 v2 v3 : Value} (hp : s.size - l1.length = k1) (hg : D < g) (hb : But D w.heap.size w w3) (hr : RdB w3 D s k1 vl) (he : e = .returned q.v) (hge : w.heap.size ≤ g) :
    ItemPost D s vl w (.ok q l1) e ((((w3.setCell ⟨g, 0, none⟩ v0).setCell ⟨g, 1, none⟩ v1).setCell ⟨g, 2, none⟩ v2).setCell ⟨g, 3, none⟩ v3) := by
  have hk : ∀ b, b ≠ g → ((((w3.setCell ⟨g, 0, none⟩ v0).setCell ⟨g, 1, none⟩ v1).setCell ⟨g, 2, none⟩ v2).setCell ⟨g, 3, none⟩ v3).heap[b]? = w3.heap[b]? := fun b h => by
    rw [Below.heap_setCell _ _ _ _ h, Below.heap_setCell _ _ _ _ h, Below.heap_setCell _ _ _ _ h, Below.heap_setCell _ _ _ _ h]
  refine ⟨⟨hb.os, hb.tape, hb.output, by simpa [World.setCell] using hb.size, fun b h1 h2 => (hk b (by omega)).trans (hb.block b h1 h2)⟩, he, ?_⟩
  rw [hp]
  exact hr.of (hk D (by omega))
theorem ret_one (b : Nat) (hb : b < 256) : ofN (natsOf [UInt8.ofNat b]) = rngW b b := by
  have : (UInt8.ofNat b).toNat = b := UInt8.toNat_ofNat_of_lt' (by show b < 256; omega)
  unfold rngW natsOf
  rw [show b + 1 - b = 1 from by omega]
  simp [this, List.range']
set_option maxHeartbeats 2000000 in
theorem item_any {w : World} {D : Nat} {s : ByteArray} {k : Nat} {vl : Value} (h : RdB w D s k vl) (hs : s.size ≤ 1000000000) (hk : k ≤ s.size) (hv : ∀ y, vl ≠ .int .u8 y) :
    Calls Try.prog 75 #[.pointer (some ⟨D, 0, none⟩)] w (ItemPost D s vl w (itemR (tl s k))) := by
  have hD := h.lt
  have h0 : Below w.heap.size w (w.alloc (.cells #[.int .u64 0, .int .u64 0, .int .u64 0, .int .u64 0] 24)) := (Below.refl _ w).alloc (Nat.le_refl _) _
  have KS := Lib.hid (rsign_any (h.below h0) hs hk hv)
  cases hsg : sgn (tl s k) with
  | bad r =>
    rw [hsg] at KS
    rw [item_bad1 hsg]
    clear hsg h
    go_enter Try.func75, Try.ntmps75
    go_wp2_with fail
    refine KS.out.mono ?_
    rintro e w1 ⟨hb1, he⟩
    simp only at he
    subst he
    unfold thr
    go_wp2
    exact ⟨rfl, but_trans (But.of h0) hb1, rfl⟩
  | ok b l1 =>
    rw [hsg] at KS
    obtain ⟨hb256, hsuf, hll⟩ := sgn_ok hsg
    obtain ⟨k1, hk1, hpos1, hl1, hln1⟩ := lpos hsuf
    have hbyte : (UInt8.ofNat b).toNat = b := UInt8.toNat_ofNat_of_lt' (by show b < 256; omega)
    have hwk : IntKind.i64.wrap ((k1 : Int) + 1) = (k1 : Int) + 1 := by rw [IntKind.wrap_i64]; omega
    have HSG := Lib.hid hsg
    have HL1 := Lib.hid hl1
    have h0b : (w.alloc (.cells #[.int .u64 0, .int .u64 0, .int .u64 0, .int .u64 0] 24)).heap[w.heap.size]? = some (.cells #[.int .u64 0, .int .u64 0, .int .u64 0, .int .u64 0] 24) := blk_new w _
    rcases notAt_or 45 l1 with h45 | ⟨l2, h45⟩
    · rw [item_one hsg h45]
      have hfr : (frS l1).toList = [] ∨ ∃ c, c ≠ 45 ∧ OneB (frS l1) c := by
        cases l1 with
        | nil => left; rw [Go.ByteArray.toList_eq]; rfl
        | cons c t => exact .inr ⟨c, fun e => h45 t (by rw [e]), frS_one c t⟩
      have d1 : ((frS (tl s k1)).toList == [45]) = false := by
        rw [← hl1]
        rcases hfr with e | ⟨c, hc, e⟩
        · rw [e]; rfl
        · rw [e.list]; simp; exact hc
      clear hsg h hl1 hsuf hfr h45 h0b
      go_enter Try.func75, Try.ntmps75
      go_wp2_with fail
      refine KS.out.mono ?_
      rintro e w1 ⟨hb1, he, hr1⟩
      subst he
      rw [hpos1] at hr1
      have KF := Lib.hid (front_any hr1 hs hk1)
      have HR1 := Lib.hid hr1
      have BT1 := Lib.hid (but_trans (But.of h0) hb1)
      have hx1 : Box w1 w.heap.size Ws.nil := (hb1.block _ (by simp) (by omega)).trans (blk_new w _)
      have HX1 := Lib.hid hx1
      clear hr1 hb1 hx1
      generalize frS (tl s k1) = f at *
      go_wp2_with fail
      refine KF.out.mono ?_
      rintro e w2 ⟨rfl, hb2⟩
      have BT2 := Lib.hid (but_trans BT1.out (But.of hb2))
      have HR2 := Lib.hid (HR1.out.below hb2)
      have HX2 := Lib.hid (HX1.out.below hb2 HX1.out.lt)
      have KO := Lib.hid (setOf_any (some ⟨w2.heap.size, 0, none⟩) [UInt8.ofNat b] 1 (w2.alloc (.cells #[.int .u8 (b : Int)] 5)) (one_byte w2 b hb256))
      rw [ret_one b hb256] at KO
      clear hb2
      go_wp2_with fail
      refine KO.out.mono ?_
      rintro e w3 ⟨rfl, hb3⟩
      have hba : Below w2.heap.size w2 w3 := ((Below.refl _ w2).alloc (Nat.le_refl _) _).trans (hb3.mono (by simp))
      have BT3 := Lib.hid (but_trans BT2.out (But.of hba))
      have HR3 := Lib.hid (HR2.out.below hba)
      have hx3 := HX2.out.below hba HX2.out.lt
      clear hba hb3
      obtain ⟨⟨c0, c1, c2, c3⟩, f0, f1, f2, f3⟩ := hx3.all
      simp only [Ws.nil] at c0 c1 c2 c3
      generalize rngW b b = q at *
      obtain ⟨qa, qb, qc, qd⟩ := q
      unfold Ws.v
      go_wp2
      exact ret_box (hx3.put4 _ _ _ _) Try.results75 rfl rfl (item_done hpos1 (by omega) BT3.out HR3.out rfl (Nat.le_refl _))
    · subst h45
      obtain ⟨hk1', htl2, hk1'', hc45⟩ := pcons HL1.out.symm
      have hln2 : l2.length = s.size - (k1 + 1) := by rw [← htl2, tl_len]
      have hfr := frS_one 45 l2
      have d1 : ((frS (tl s k1)).toList == [45]) = true := by rw [← hl1, hfr.list]; rfl
      cases hsg2 : sgn l2 with
      | bad r =>
        rw [item_bad2 hsg hsg2]
        have HSG2 := Lib.hid (show sgn (tl s (k1 + 1)) = .bad r from by rw [htl2]; exact hsg2)
        clear hsg hsg2 h hl1 hsuf hfr h0b htl2 hc45 hk1''
        go_enter Try.func75, Try.ntmps75
        go_wp2_with fail
        refine KS.out.mono ?_
        rintro e w1 ⟨hb1, he, hr1⟩
        subst he
        rw [hpos1] at hr1
        have KF := Lib.hid (front_any hr1 hs hk1)
        have HR1 := Lib.hid hr1
        have BT1 := Lib.hid (but_trans (But.of h0) hb1)
        clear hr1 hb1
        generalize frS (tl s k1) = f at *
        go_wp2_with fail
        refine KF.out.mono ?_
        rintro e w2 ⟨rfl, hb2⟩
        have hr2 := HR1.out.below hb2
        obtain ⟨c0, c1, c2⟩ := hr2.cells
        obtain ⟨f0, f1, f2⟩ := hr2.frozen
        have hr3 := hr2.go (k1 + 1)
        obtain ⟨g0, g1, g2⟩ := hr3.cells
        have BT3 := Lib.hid ((but_trans BT1.out (But.of hb2)).set 1 (.int .i64 ((k1 + 1 : Nat) : Int)))
        have KS2 := Lib.hid (rsign_any hr3 hs (by omega) hv)
        rw [HSG2.out] at KS2
        clear hr2 hr3 hb2
        go_wp2_with fail
        refine KS2.out.mono ?_
        rintro e w4 ⟨hb4, he⟩
        simp only at he
        subst he
        unfold thr
        go_wp2
        exact ⟨rfl, but_trans BT3.out hb4, rfl⟩
      | ok b' l3 =>
        obtain ⟨hb256', hsuf2, hll2⟩ := sgn_ok hsg2
        obtain ⟨k3, hk3, hpos3, hl3, hln3⟩ := lpos (s := s) (i := k1 + 1) (by rw [htl2]; exact hsuf2)
        have HSG2 := Lib.hid (show sgn (tl s (k1 + 1)) = .ok b' l3 from by rw [htl2]; exact hsg2)
        by_cases hless : b' < b
        · rw [item_less hsg hsg2 hless]
          have q1 : decide ((b' : Int) < (b : Int)) = true := by simp; omega
          have q2 : decide (b' < b) = true := by simp; omega
          clear hsg hsg2 h hl1 hsuf hfr h0b htl2 hc45 hk1'' hsuf2 hl3
          go_enter Try.func75, Try.ntmps75
          go_wp2_with fail
          refine KS.out.mono ?_
          rintro e w1 ⟨hb1, he, hr1⟩
          subst he
          rw [hpos1] at hr1
          have KF := Lib.hid (front_any hr1 hs hk1)
          have HR1 := Lib.hid hr1
          have BT1 := Lib.hid (but_trans (But.of h0) hb1)
          clear hr1 hb1
          generalize frS (tl s k1) = f at *
          go_wp2_with fail
          refine KF.out.mono ?_
          rintro e w2 ⟨rfl, hb2⟩
          have hr2 := HR1.out.below hb2
          obtain ⟨c0, c1, c2⟩ := hr2.cells
          obtain ⟨f0, f1, f2⟩ := hr2.frozen
          have hr3 := hr2.go (k1 + 1)
          obtain ⟨g0, g1, g2⟩ := hr3.cells
          have BT3 := Lib.hid ((but_trans BT1.out (But.of hb2)).set 1 (.int .i64 ((k1 + 1 : Nat) : Int)))
          have KS2 := Lib.hid (rsign_any hr3 hs (by omega) hv)
          rw [HSG2.out] at KS2
          clear hr2 hr3 hb2
          go_wp2_with fail
          refine KS2.out.mono ?_
          rintro e w4 ⟨hb4, he, hr4⟩
          subst he
          have BT4 := Lib.hid (but_trans BT3.out hb4)
          clear hr4 hb4 hless
          go_wp2
          refine ⟨rfl, BT4.out, ?_⟩
          show _ = thr (s.size - l2.length)
          rw [hln2, show s.size - (s.size - (k1 + 1)) = k1 + 1 from by omega]
          rfl
        · rw [item_range hsg hsg2 (by omega)]
          have q1 : decide ((b' : Int) < (b : Int)) = false := by simp; omega
          have q2 : decide (b' < b) = false := by simp; omega
          have KR := Lib.hid fun W => range_any b b' W hb256 hb256'
          clear hsg hsg2 h hl1 hsuf hfr h0b htl2 hc45 hk1'' hsuf2 hl3
          go_enter Try.func75, Try.ntmps75
          go_wp2_with fail
          refine KS.out.mono ?_
          rintro e w1 ⟨hb1, he, hr1⟩
          subst he
          rw [hpos1] at hr1
          have KF := Lib.hid (front_any hr1 hs hk1)
          have HR1 := Lib.hid hr1
          have BT1 := Lib.hid (but_trans (But.of h0) hb1)
          have hx1 : Box w1 w.heap.size Ws.nil := (hb1.block _ (by simp) (by omega)).trans (blk_new w _)
          clear hr1 hb1
          generalize frS (tl s k1) = f at *
          have HX1 := Lib.hid hx1
          clear hx1
          go_wp2_with fail
          refine KF.out.mono ?_
          rintro e w2 ⟨rfl, hb2⟩
          have hr2 := HR1.out.below hb2
          obtain ⟨c0, c1, c2⟩ := hr2.cells
          obtain ⟨f0, f1, f2⟩ := hr2.frozen
          have hr3 := hr2.go (k1 + 1)
          obtain ⟨g0, g1, g2⟩ := hr3.cells
          have BT3 := Lib.hid ((but_trans BT1.out (But.of hb2)).set 1 (.int .i64 ((k1 + 1 : Nat) : Int)))
          have HX3 := Lib.hid ((HX1.out.below hb2 HX1.out.lt).far (p := ⟨D, 1, none⟩) (show w.heap.size ≠ D from by omega) (.int .i64 ((k1 + 1 : Nat) : Int)))
          have KS2 := Lib.hid (rsign_any hr3 hs (by omega) hv)
          rw [HSG2.out] at KS2
          clear hr2 hr3 hb2
          go_wp2_with fail
          refine KS2.out.mono ?_
          rintro e w4 ⟨hb4, he, hr4⟩
          subst he
          have BT4 := Lib.hid (but_trans BT3.out hb4)
          have HX4 := Lib.hid (show Box w4 w.heap.size Ws.nil from (hb4.block _ HX3.out.lt (by omega)).trans HX3.out)
          rw [hpos3] at hr4
          have HR4 := Lib.hid hr4
          clear hr4 hb4 hless c0 c1 c2 f0 f1 f2 g0 g1 g2
          go_wp2_with fail
          refine (KR.out _).mono ?_
          rintro e w5 ⟨rfl, hb5⟩
          have BT5 := Lib.hid (but_trans BT4.out (But.of hb5))
          have HR5 := Lib.hid (HR4.out.below hb5)
          have hx5 := HX4.out.below hb5 HX4.out.lt
          have hrg : rangeW b b' = rngW b b' := rfl
          rw [hrg]
          clear hb5 hrg
          obtain ⟨⟨c0, c1, c2, c3⟩, f0, f1, f2, f3⟩ := hx5.all
          simp only [Ws.nil] at c0 c1 c2 c3
          generalize rngW b b' = q at *
          obtain ⟨qa, qb, qc, qd⟩ := q
          unfold Ws.v
          go_wp2
          exact ret_box (hx5.put4 _ _ _ _) Try.results75 rfl rfl (item_done hpos3 (by omega) BT5.out HR5.out rfl (Nat.le_refl _))
end Go.Proofs.Ytiegejbbjlhpdaa
