/- Lemmas of mine, merged: QPMatK, QPMatBs, QPMatR, QPMatT, QPMatU, QPMatV. -/
import Derived.Test.YtiegejbbjlhpdaaQPMatHAll
import Derived.Test.YtiegejbbjlhpdaaQPReadJAll
import Derived.Test.YtiegejbbjlhpdaaQPSetAAll
import Derived.Test.YtiegejbbjlhpdaaQPRexBAll
import Derived.Test.YtiegejbbjlhpdaaQPRexKAll
/- Lemmas of mine. -/
namespace Go.Proofs.Ytiegejbbjlhpdaa
open Go.RowKit
def intsInv (l m : List Nat) (w : World) (y13 : Value) (W : World) : Prop := ∃ i : Nat, i ≤ l.length ∧ y13 = .int .i64 i ∧ l.take i = m.take i ∧ Below w.heap.size w W
set_option maxRecDepth 100000 in
set_option maxHeartbeats 4000000 in
theorem ints_any (l m : List Nat) (u v : Value) (w : World) (hl : l.length ≤ 100000) (hm : m.length ≤ 100000) (hu : OwnI w u l) (hv : OwnI w v m) :
    Calls Try.prog 11 #[u, v] w fun e w' => e = .returned (.bool (decide (l = m))) ∧ Below w.heap.size w w' := by
  have HU := Lib.hid hu
  have HV := Lib.hid hv
  obtain ⟨up, uc, rfl⟩ := own_len hu
  obtain ⟨vp, vc, rfl⟩ := own_len hv
  by_cases hlen : l.length = m.length
  · have d0 : ((l.length : Int) != (m.length : Int)) = false := by simp; omega
    have HLEN := Lib.hid hlen
    obtain ⟨q, hq⟩ : ∃ q, q = decide (l = m) := ⟨_, rfl⟩
    rw [← hq]
    have HQ := Lib.hid hq
    obtain ⟨nm, hnm⟩ : ∃ nm, nm = m.length := ⟨_, rfl⟩
    rw [← hnm] at d0 ⊢
    have HNM := Lib.hid hnm
    clear hu hv hlen hq hnm
    go_enter Try.func11, Try.ntmps11
    go_wp2_with fail
    go_loopw [13] (fun y13 wr => intsInv l m w y13 wr) (fun y13 _ => l.length - (intOf y13).toNat)
    case atStart => exact ⟨0, Nat.zero_le _, rfl, rfl, Below.refl _ _⟩
    case round =>
      obtain ⟨i, hi, rfl, ht, hb⟩ := hrel
      have HT := Lib.hid ht
      have HB := Lib.hid hb
      by_cases hlt : i < l.length
      · have hltm : i < m.length := by have := HLEN.out; omega
        have q1 : (i : Int) < (l.length : Int) := by omega
        have q2 : (i : Int) < (nm : Int) := by have := HLEN.out; have := HNM.out; omega
        obtain ⟨f, cap, cur, hvf, -⟩ := (HU.out.form).resolve_left (fun h => by rw [h.2] at hlt; exact absurd hlt (Nat.not_lt_zero _))
        injection hvf with hvf1 hvf2 hvf3
        subst hvf1
        obtain ⟨f', cap', cur', hvg, -⟩ := (HV.out.form).resolve_left (fun h => by rw [h.2] at hltm; exact absurd hltm (Nat.not_lt_zero _))
        injection hvg with hvg1 hvg2 hvg3
        subst hvg1
        have cu := (HU.out.below hb).cell i hlt
        have cv := (HV.out.below hb).cell i hltm
        have htl : l.take (i + 1) = l.take i ++ [l[i]] := List.take_succ_eq_append_getElem hlt
        have htm : m.take (i + 1) = m.take i ++ [m[i]] := List.take_succ_eq_append_getElem hltm
        obtain ⟨x, hx⟩ : ∃ x, x = l[i] := ⟨_, rfl⟩
        obtain ⟨y, hy⟩ : ∃ y, y = m[i] := ⟨_, rfl⟩
        rw [← hx] at cu htl
        rw [← hy] at cv htm
        have HL1 := Lib.hid htl
        have HM1 := Lib.hid htm
        have hne : x ≠ y → l ≠ m := fun hxy e => hxy (by
          subst e
          rw [hx, hy])
        have HNE := Lib.hid hne
        clear htl htm hx hy ht hb hvf2 hvf3 hvg2 hvg3 hne
        by_cases hxy : x = y
        · have d1 : ((x : Int) != (y : Int)) = false := by simp; omega
          have hend : intsInv l m w (.int .i64 ((i : Int) + 1)) wr.drew := ⟨i + 1, hlt, by simp, by rw [HL1.out, HM1.out, HT.out, hxy], HB.out.drew⟩
          have HEND := Lib.hid hend
          clear hend hxy
          go_wp2_with fail
          go_region
          go_wp2
          exact ⟨HEND.out, by simp [intOf]; omega⟩
        · have d1 : ((x : Int) != (y : Int)) = true := by simp; omega
          have hq : q = false := by rw [HQ.out]; simp; exact HNE.out hxy
          have HQ2 := Lib.hid hq
          clear hq hxy
          go_wp2_with fail
          go_region
          go_wp2
          go_ret
          exact ⟨by rw [HQ2.out]; rfl, HB.out.drew⟩
      · have q1 : ¬ (i : Int) < (l.length : Int) := by omega
        have hlm : l = m := by
          have h1 : l.take i = l := List.take_of_length_le (by omega)
          have h2 : m.take i = m := List.take_of_length_le (by have := HLEN.out; omega)
          rw [h1, h2] at ht
          exact ht
        have hq : q = true := by rw [HQ.out]; simp [hlm]
        have HQ2 := Lib.hid hq
        clear hq hlm ht hb
        go_wp2
        go_ret
        exact ⟨by rw [HQ2.out]; rfl, HB.out⟩
  · have d0 : ((l.length : Int) != (m.length : Int)) = true := by simp; omega
    have hq : decide (l = m) = false := by simp; exact fun e => hlen (by rw [e])
    rw [hq]
    clear hu hv hq hlen
    go_enter Try.func11, Try.ntmps11
    go_wp2
    go_ret
    exact ⟨rfl, Below.refl _ _⟩
def ex10 : Ex := .star (.cls (rngW 97 97))
theorem px_10 : PX .alt [97, 42] (.ok ex10 []) := PX.altOne (PX.rowOne (ex_atom 97 _ rfl (by decide) (by decide) (by decide)) rfl rfl) (notAt_nil _)
theorem rd_10 : rdOf ⟨#[97, 42]⟩ = .ok ex10 := by
  rw [rdOf_px (s := ⟨#[97, 42]⟩) px_10]
  unfold topR
  rw [if_neg (by decide)]
  simp only [if_true]
  rw [if_pos (by decide)]
theorem wf_10 : ex10.Wf := ⟨ofN_ok _, fun e => by
  have h : (rngW 97 97).has 97 = true := (by decide +kernel)
  rw [e, Ws.has_nil] at h
  cases h⟩
theorem star_cls {s : Ws} : ∀ {u : List UInt8}, Ex.Fit (.star (.cls s)) u ↔ ∀ c ∈ u, s.has c.toNat = true
  | [] => ⟨fun _ c hc => (by cases hc), fun _ => .none⟩
  | c :: u => by
    constructor
    · intro h
      rcases fit_star.1 h with h | ⟨c', v, w, h1, h2, h3⟩
      · cases h
      · obtain ⟨d, hd, hd2⟩ := fit_cls.1 h2
        injection hd with hd3 hd4
        subst hd3 hd4
        simp at h1
        obtain ⟨rfl, rfl⟩ := h1
        intro x hx
        rcases List.mem_cons.1 hx with e | e
        · rw [e]; exact hd2
        · exact star_cls.1 h3 x e
    · intro h
      exact Ex.Fit.more (u := [c]) (.cls (h c (by simp))) (star_cls.2 fun x hx => h x (List.mem_cons_of_mem _ hx))
theorem ends_10 : endsI ex10.rx ⟨#[97, 97, 98]⟩ 0 = [0, 1, 2] := by
  rw [show (0 : Int) = ((0 : Nat) : Int) from rfl, endsI_in wf_10 (by decide) (Nat.zero_le _)]
  refine rise_ext (endsN_lt _ _ _) (by decide) fun x => ?_
  rw [mem_endsN]
  have ha : (rngW 97 97).has 97 = true := by decide +kernel
  have hb : (rngW 97 97).has 98 = false := by decide +kernel
  constructor
  · intro h
    have hx := h.1
    have hf := (fits_ends _ _ _ hx).1 h
    have hx3 : x ≤ 3 := hx
    rcases (show x = 0 ∨ x = 1 ∨ x = 2 ∨ x = 3 by omega) with e | e | e | e
    · subst e; simp
    · subst e; simp
    · subst e; simp
    · subst e
      have := star_cls.1 hf 98 (by simp)
      rw [show ((98 : UInt8)).toNat = 98 from rfl, hb] at this
      cases this
  · intro h
    simp at h
    rcases h with e | e | e
    · subst e; exact (fits_ends _ _ _ (by decide)).2 (star_cls.2 fun c hc => by simp at hc)
    · subst e; exact (fits_ends _ _ _ (by decide)).2 (star_cls.2 fun c hc => by simp at hc; subst hc; exact ha)
    · subst e; exact (fits_ends _ _ _ (by decide)).2 (star_cls.2 fun c hc => by simp at hc; subst hc; exact ha)
set_option maxHeartbeats 4000000 in
set_option maxRecDepth 100000 in
theorem awake10_any (hRead : ReadC) (w : World) : Calls Try.prog 8 #[] w fun x w' => x = .returned (.bool true) ∧ Below w.heap.size w w' := by
  have K1 := Lib.hid (hRead ⟨#[97, 42]⟩ w (by decide))
  rw [rd_10] at K1
  have KE := Lib.hid fun (v : Value) W (h : ReAt (New w.heap.size) W v ex10.rx) => mEnds_any ex10.rx ⟨#[97, 97, 98]⟩ (by decide) 0 v W h
  rw [ends_10] at KE
  clear hRead
  go_enter Try.func8, Try.ntmps8
  go_wp2_with fail
  refine K1.out.mono ?_
  rintro e w1 ⟨hb1, v, rfl, hv⟩
  obtain ⟨x0, x1, x2, x3, x4, xl, xn, xc, rfl⟩ := cells_re hv
  have hal := bel_al w1 (.cells #[.int .u8 x0, .int .u64 x1, .int .u64 x2, .int .u64 x3, .int .u64 x4, .slice xl xn xc] 27)
  have HV := Lib.hid (hv.below hal)
  have HB := Lib.hid (hb1.trans (hal.mono hb1.size))
  clear hal hb1 hv K1
  go_wp2_with fail
  refine (KE.out _ _ HV.out).mono ?_
  rintro e w2 ⟨v2, rfl, hv2, hb2⟩
  obtain ⟨p, c, rfl⟩ := own_len hv2
  have hal := bel_al w2 (.cells #[.int .i64 0, .int .i64 1, .int .i64 2] 3)
  have HB2 := Lib.hid ((HB.out.trans (hb2.mono HB.out.size)).trans (hal.mono (Nat.le_trans HB.out.size hb2.size)))
  have hlit : OwnI (w2.alloc (.cells #[.int .i64 0, .int .i64 1, .int .i64 2] 3)) (.slice (some ⟨w2.heap.size, 0, none⟩) 3 3) [0, 1, 2] := OwnI.of (l := [0, 1, 2]) (blk_new w2 _) (Nat.le_refl _) (by decide) rfl rfl
  have KI := Lib.hid (ints_any [0, 1, 2] [0, 1, 2] _ _ _ (by decide) (by decide) (hv2.below hal) hlit)
  rw [show decide (([0, 1, 2] : List Nat) = [0, 1, 2]) = true from rfl] at KI
  clear hal hb2 hv2 HV HB KE hlit
  go_wp2_with fail
  refine KI.out.mono ?_
  rintro e w3 ⟨rfl, hb3⟩
  have HB3 := Lib.hid (HB2.out.trans (hb3.mono HB2.out.size))
  clear hb3 HB2 KI
  go_wp2
  go_ret
  exact ⟨rfl, HB3.out⟩
open Go.RowKit
theorem great10 {r : Rx} {n : Nat} (h : r.size ≤ 1000000000 → false = greatB r n) (hs : r.size ≤ 1048576) : r.size ≤ n := by
  have := (h (by omega)).symm
  simp [greatB] at this
  omega
open Go.RowKit
theorem rep_get (n j : Nat) : (List.replicate n false).getD j false = false := by
  rw [List.getD_eq_getElem?_getD, List.getElem?_replicate]
  split <;> rfl
open Go.RowKit
def fstI (p : Nat → Bool) (n : Nat) : Int := match (List.range n).find? p with
  | some i => (i : Int)
  | none => -1
theorem fstI_hit {p : Nat → Bool} {n i : Nat} (hi : i < n) (h0 : ∀ j, j < i → p j = false) (h1 : p i = true) : fstI p n = (i : Int) := by
  unfold fstI
  rw [show (List.range n).find? p = some i from by
    rw [List.find?_range_eq_some]
    exact ⟨by simpa using h1, by simpa using hi, fun j hj => by rw [h0 j hj]; rfl⟩]
theorem fstI_none {p : Nat → Bool} {n : Nat} (h0 : ∀ j, j < n → p j = false) : fstI p n = -1 := by
  unfold fstI
  rw [show (List.range n).find? p = none from by
    rw [List.find?_eq_none]
    intro j hj
    rw [h0 j (List.mem_range.1 hj)]
    decide]
theorem fstI_any (p : Nat → Bool) (n : Nat) : decide (0 ≤ fstI p n) = (List.range n).any p := by
  unfold fstI
  cases h : (List.range n).find? p with
  | none =>
    rw [List.find?_eq_none] at h
    have : (List.range n).any p = false := by
      rw [List.any_eq_false]
      exact h
    rw [this]; rfl
  | some i =>
    have h1 := List.find?_some h
    have h2 := List.mem_of_find?_eq_some h
    rw [List.any_eq_true.2 ⟨i, h2, h1⟩]
    simp
def fstInv (p : Nat → Bool) (n : Nat) (w : World) (y : Value) (W : World) : Prop := ∃ i : Nat, i ≤ n ∧ y = .int .i64 i ∧ (∀ j, j < i → p j = false) ∧ Below w.heap.size w W
theorem fst_next {p : Nat → Bool} {i : Nat} (h : ∀ j, j < i → p j = false) (h1 : p i = false) : ∀ j, j < i + 1 → p j = false := fun j hj => by
  by_cases e : j = i
  · rw [e]; exact h1
  · exact h j (by omega)
def eqAtN (l : List Nat) (k : Nat) (j : Nat) : Bool := decide (l[j]? = some k)
set_option maxRecDepth 100000 in
set_option maxHeartbeats 4000000 in
theorem indexI10 (l : List Nat) (k : Nat) (v : Value) (w : World) (hl : l.length ≤ 1000) (h : OwnI w v l) :
    Calls Try.prog 58 #[v, .int .i64 k] w fun e w' => e = .returned (.int .i64 (fstI (eqAtN l k) l.length)) ∧ Below w.heap.size w w' := by
  have HR := Lib.hid h
  obtain ⟨vp, vc, rfl⟩ := own_len h
  obtain ⟨z, hz⟩ : ∃ z, z = fstI (eqAtN l k) l.length := ⟨_, rfl⟩
  rw [← hz]
  have HZ := Lib.hid hz
  clear h hz
  go_enter Try.func58, Try.ntmps58
  go_wp2_with fail
  go_loopw [8] (fun y wr => fstInv (eqAtN l k) l.length w y wr) (fun y _ => l.length - (intOf y).toNat)
  case atStart => exact ⟨0, Nat.zero_le _, rfl, fun j hj => absurd hj (Nat.not_lt_zero _), Below.refl _ _⟩
  case round =>
    obtain ⟨i, hi, rfl, hn, hb⟩ := hrel
    have HN := Lib.hid hn
    by_cases hlt : i < l.length
    · obtain ⟨f, cap, cur, hvf, -⟩ := (HR.out.form).resolve_left (fun h => by rw [h.2] at hlt; exact absurd hlt (Nat.not_lt_zero _))
      injection hvf with hvf1 hvf2 hvf3
      subst hvf1
      have c1 := (HR.out.below hb).cell i hlt
      have hx : eqAtN l k i = decide (l[i] = k) := by unfold eqAtN; rw [List.getElem?_eq_getElem hlt]; simp
      generalize l[i] = x at *
      have HX := Lib.hid hx
      have q1 : (i : Int) < (l.length : Int) := by omega
      clear hx hn hvf2 hvf3
      by_cases hxk : x = k
      · have d1 : ((k : Int) == (x : Int)) = true := by simp [hxk]
        have hzi : z = (i : Int) := by rw [HZ.out]; exact fstI_hit hlt HN.out (by rw [HX.out]; simp [hxk])
        have HZI := Lib.hid hzi
        clear hzi hxk
        go_wp2
        go_ret
        exact ⟨by rw [HZI.out]; rfl, hb⟩
      · have d1 : ((k : Int) == (x : Int)) = false := by simp; omega
        have hnx := fst_next HN.out (by rw [HX.out]; simp [hxk])
        have HNX := Lib.hid hnx
        clear hnx hxk
        go_wp2
        exact ⟨⟨i + 1, hlt, by go_num, HNX.out, hb⟩, by simp [intOf]; omega⟩
    · have q1 : ¬ (i : Int) < (l.length : Int) := by omega
      have hzi : z = -1 := by rw [HZ.out]; exact fstI_none fun j hj => hn j (by omega)
      have HZI := Lib.hid hzi
      clear hzi hn
      go_wp2
      go_ret
      exact ⟨by rw [HZI.out]; rfl, hb⟩
theorem any_eqAt (l : List Nat) (k : Nat) : (List.range l.length).any (eqAtN l k) = decide (k ∈ l) := by
  rw [Bool.eq_iff_iff, List.any_eq_true, decide_eq_true_eq]
  constructor
  · rintro ⟨j, _, hj⟩
    unfold eqAtN at hj
    exact List.mem_of_getElem? (by simpa using hj)
  · intro h
    obtain ⟨j, hj, e⟩ := List.getElem_of_mem h
    exact ⟨j, List.mem_range.2 hj, by unfold eqAtN; rw [List.getElem?_eq_getElem hj, e]; simp⟩
set_option maxRecDepth 100000 in
theorem containsI10 (l : List Nat) (k : Nat) (v : Value) (w : World) (hl : l.length ≤ 1000) (h : OwnI w v l) :
    Calls Try.prog 49 #[v, .int .i64 k] w fun e w' => e = .returned (.bool (decide (k ∈ l))) ∧ Below w.heap.size w w' := by
  have K := Lib.hid (indexI10 l k v w hl h)
  rw [← any_eqAt, ← fstI_any]
  obtain ⟨vp, vc, rfl⟩ := own_len h
  clear h
  generalize fstI (eqAtN l k) l.length = z at *
  go_enter Try.func49, Try.ntmps49
  go_wp2_with fail
  refine K.out.mono ?_
  rintro e w1 ⟨rfl, hb⟩
  go_wp2
  go_ret
  exact ⟨rfl, hb⟩
theorem fitX9_iff {e : Ex} (we : e.Wf) (hs : e.size ≤ 2000) (s : ByteArray) : fitX9 e.rx s = true ↔ EndsP e s.data.toList (fun i => i = 0) s.size := by
  unfold fitX9 ends0
  rw [exX_of we hs]
  simp only
  rw [endsL_at]
  have hF : (fun i => ((List.replicate (s.size + 1) false).set 0 true).getD i false = true) = fun i => i = 0 := by
    funext i
    apply propext
    rw [List.getD_eq_getElem?_getD, List.getElem?_set]
    by_cases hi : 0 = i
    · subst hi; simp
    · rw [if_neg hi, List.getElem?_replicate]
      split <;> simp <;> omega
  rw [hF]
theorem fitX9_no {r : Rx} (h : mayR r = false) (s : ByteArray) : fitX9 r s = false := by
  unfold fitX9 ends0
  rw [exX_no h]
  exact rep_get _ _
set_option maxRecDepth 100000 in
set_option maxHeartbeats 4000000 in
theorem mfits_any {ok : Nat → Prop} (r : Rx) (s : ByteArray) (hs : s.size ≤ 60) (v : Value) (w : World) (hm : mayR r = true) (h : ReAt ok w v r) :
    Calls Try.prog 34 #[v, .string s] w fun e w' => e = .returned (.bool (fitX9 r s)) ∧ Below w.heap.size w w' := by
  obtain ⟨e, rfl, we, hes⟩ := may_ex h hm
  have hf := fitX9_iff we hes s
  obtain ⟨x0, x1, x2, x3, x4, xl, xn, xc, rfl⟩ := cells_re h
  have hb0 := bel_al w (.cells #[.int .u8 x0, .int .u64 x1, .int .u64 x2, .int .u64 x3, .int .u64 x4, .slice xl xn xc] 27)
  have KP := Lib.hid (part_any e ok _ _ (h.below hb0))
  have B0 := Lib.hid hb0
  have KE := Lib.hid fun (x : World) (g2 : Nat) (F2 : Nat → Prop) (f2 : Nat) hx hp hc hf => ask_first s hs e we w x g2 F2 f2 hx hp hc hf
  generalize fitX9 e.rx s = q at *
  have HF := Lib.hid hf
  clear h hb0 hm hf
  go_enter Try.func34, Try.ntmps34
  go_wp2_with fail
  refine KP.out.mono ?_
  rintro e1 w1 ⟨y, rfl, ⟨g, F, rfl, hp, hF⟩, hb1⟩
  have hbw := B0.out.trans (hb1.mono B0.out.size)
  have hal := bel_al w1 (.cells #[.int .i64 0] 3)
  have hK := KE.out (w1.alloc (.cells #[.int .i64 0] 3)) g F w1.heap.size (hbw.trans (hal.mono hbw.size)) ⟨hp.below hal, fun z hz => Nat.le_trans B0.out.size (hF z hz)⟩ (blk_new w1 _) hbw.size
  have HK := Lib.hid hK
  clear hp hF hb1 hbw hal hK KP
  go_wp2_with fail
  refine HK.out.mono ?_
  rintro e1 w2 ⟨y, rfl, l, ho, ht, hb2⟩
  have hlen := tld_len ht
  rw [Array.length_toList] at hlen
  have hlen2 : l.length ≤ s.size + 1 := hlen
  have KC := Lib.hid (containsI10 l s.size y w2 (by omega) ho)
  have hq : decide (s.size ∈ l) = q := by
    rw [Bool.eq_iff_iff, decide_eq_true_eq, HF.out, ht.2, also_zero, endsP_no]
    exact ⟨fun h => h.1, fun h => ⟨h, fun h2 => h2⟩⟩
  rw [hq] at KC
  obtain ⟨yp, yc, rfl⟩ := own_len ho
  have B2 := Lib.hid hb2
  clear ho ht hb2 hlen hlen2 hq HK KE HF
  go_wp2_with fail
  refine KC.out.mono ?_
  rintro e1 w3 ⟨rfl, hb3⟩
  have B3 := Lib.hid (B2.out.trans (hb3.mono B2.out.size))
  clear hb3
  go_wp2
  go_ret
  exact ⟨rfl, B3.out⟩
open Go.RowKit
theorem strs_below10 {w w' : World} {al : Option Addr} {L : List ByteArray} (h : StrsAt w al L) (hb : Below w.heap.size w w') : StrsAt w' al L := by
  rcases h with h | ⟨b, off, e, hlt, hc⟩
  · exact .inl h
  · exact .inr ⟨b, off, e, Nat.lt_of_lt_of_le hlt hb.size, fun i hi => (hb.cell (p := ⟨b, off + i, none⟩) hlt).trans (hc i hi)⟩
def notB (P : ByteArray → Bool) (L : List ByteArray) (j : Nat) : Bool := match L[j]? with
  | some s => !P s
  | none => false
set_option maxRecDepth 100000 in
set_option maxHeartbeats 4000000 in
theorem fits1_any {ok : Nat → Prop} (r : Rx) (s : ByteArray) (hs : s.size ≤ 60) (g : Nat) (v : Value) (w : World) (hm : mayR r = true) (h : ReAt ok w v r) (hc : ∀ x0 x1 x2 x3 x4 x5, v = .agg #[x0, x1, x2, x3, x4, x5] → w.heap[g]? = some (.cells #[x0, x1, x2, x3, x4, x5] 27)) :
    Calls Try.prog 33 #[.string s, .pointer (some ⟨g, 0, none⟩)] w fun e w' => e = .returned (.bool (!fitX9 r s)) ∧ Below w.heap.size w w' := by
  have KF := Lib.hid (mfits_any r s hs v w hm h)
  obtain ⟨x0, x1, x2, x3, x4, xl, xn, xc, rfl⟩ := cells_re h
  obtain ⟨c0, c1, c2, c3, c4, c5, -⟩ := cellsR (hc _ _ _ _ _ _ rfl)
  generalize fitX9 r s = q at *
  clear h hc hm
  go_enter Try.func33, Try.ntmps33
  go_wp2_with fail
  refine KF.out.mono ?_
  rintro e w1 ⟨rfl, hb⟩
  go_wp2
  go_ret
  exact ⟨rfl, hb⟩
set_option maxRecDepth 100000 in
set_option maxHeartbeats 4000000 in
theorem indexS_of (r : Rx) (g : Nat) (L : List ByteArray) (al : Option Addr) (lcap : Nat) (w : World) (hl : L.length ≤ 1000) (hR : StrsAt w al L)
    (KC : ∀ s ∈ L, ∀ x, Below w.heap.size w x → Calls Try.prog 33 #[.string s, .pointer (some ⟨g, 0, none⟩)] x fun e w' => e = .returned (.bool (!fitX9 r s)) ∧ Below x.heap.size x w') :
    Calls Try.prog 48 #[.slice al L.length lcap, .func (.func 33) #[] #[.pointer (some ⟨g, 0, none⟩)]] w fun e w' => e = .returned (.int .i64 (fstI (notB (fitX9 r) L) L.length)) ∧ Below w.heap.size w w' := by
  have HR := Lib.hid hR
  have HC := Lib.hid KC
  obtain ⟨z, hz⟩ : ∃ z, z = fstI (notB (fitX9 r) L) L.length := ⟨_, rfl⟩
  rw [← hz]
  have HZ := Lib.hid hz
  clear hR KC hz
  go_enter Try.func48, Try.ntmps48
  go_wp2
  go_loopw [8] (fun y wr => fstInv (notB (fitX9 r) L) L.length w y wr) (fun y _ => L.length - (intOf y).toNat)
  case atStart => exact ⟨0, Nat.zero_le _, rfl, fun j hj => absurd hj (Nat.not_lt_zero _), Below.refl _ _⟩
  case round =>
    obtain ⟨i, hi, rfl, hn, hb⟩ := hrel
    have HN := Lib.hid hn
    have HB := Lib.hid hb
    by_cases hlt : i < L.length
    · have q1 : (i : Int) < (L.length : Int) := by omega
      obtain ⟨sb, so, hal, hsl, hcs⟩ := HR.out.resolve_left (fun h => by rw [h] at hlt; exact absurd hlt (Nat.not_lt_zero _))
      subst hal
      have c1 : wr.cell? ⟨sb, so + i, none⟩ = some (.string L[i]) := (hb.cell (p := ⟨sb, so + i, none⟩) hsl).trans (hcs i hlt)
      have hx : notB (fitX9 r) L i = !fitX9 r L[i] := by unfold notB; rw [List.getElem?_eq_getElem hlt]
      have KI := Lib.hid (HC.out L[i] (List.getElem_mem hlt) wr hb)
      generalize L[i] = t at *
      generalize fitX9 r t = q at *
      have HX := Lib.hid hx
      clear hx hn hb hcs
      go_wp2_with fail
      refine KI.out.mono ?_
      rintro e w1 ⟨rfl, hb1⟩
      have HB1 := Lib.hid (HB.out.trans (hb1.mono HB.out.size))
      clear hb1 c1
      cases q with
      | false =>
        have hzi : z = (i : Int) := by rw [HZ.out]; exact fstI_hit hlt HN.out (by rw [HX.out]; rfl)
        have HZI := Lib.hid hzi
        clear hzi
        go_wp2
        go_ret
        exact ⟨by rw [HZI.out]; rfl, HB1.out⟩
      | true =>
        have hnx := fst_next HN.out (by rw [HX.out]; rfl)
        have HNX := Lib.hid hnx
        clear hnx
        go_wp2
        exact ⟨⟨i + 1, hlt, by go_num, HNX.out, HB1.out⟩, by simp [intOf]; omega⟩
    · have q1 : ¬ (i : Int) < (L.length : Int) := by omega
      have hzi : z = -1 := by rw [HZ.out]; exact fstI_none fun j hj => hn j (by omega)
      have HZI := Lib.hid hzi
      clear hzi hn
      go_wp2
      go_ret
      exact ⟨by rw [HZI.out]; rfl, hb⟩
theorem any_notB (P : ByteArray → Bool) (L : List ByteArray) : (List.range L.length).any (notB P L) = !(L.all P) := by
  rw [Bool.eq_iff_iff, List.any_eq_true, Bool.not_eq_true']
  constructor
  · rintro ⟨j, hj, h⟩
    have hjl := List.mem_range.1 hj
    unfold notB at h
    rw [List.getElem?_eq_getElem hjl] at h
    rw [List.all_eq_false]
    exact ⟨L[j], List.getElem_mem hjl, by simpa using h⟩
  · intro h
    rw [List.all_eq_false] at h
    obtain ⟨s, hs, hp⟩ := h
    obtain ⟨j, hj, e⟩ := List.getElem_of_mem hs
    exact ⟨j, List.mem_range.2 hj, by unfold notB; rw [List.getElem?_eq_getElem hj, e]; simpa using hp⟩
set_option maxRecDepth 100000 in
set_option maxHeartbeats 4000000 in
theorem containsS_of (r : Rx) (g : Nat) (L : List ByteArray) (al : Option Addr) (lcap : Nat) (w : World) (hl : L.length ≤ 1000) (hR : StrsAt w al L)
    (KC : ∀ s ∈ L, ∀ x, Below w.heap.size w x → Calls Try.prog 33 #[.string s, .pointer (some ⟨g, 0, none⟩)] x fun e w' => e = .returned (.bool (!fitX9 r s)) ∧ Below x.heap.size x w') :
    Calls Try.prog 32 #[.slice al L.length lcap, .func (.func 33) #[] #[.pointer (some ⟨g, 0, none⟩)]] w fun e w' => e = .returned (.bool (!(L.all (fitX9 r)))) ∧ Below w.heap.size w w' := by
  have K := Lib.hid (indexS_of r g L al lcap w hl hR KC)
  rw [← any_notB, ← fstI_any]
  clear hR KC
  generalize fstI (notB (fitX9 r) L) L.length = z at *
  go_enter Try.func32, Try.ntmps32
  go_wp2_with fail
  refine K.out.mono ?_
  rintro e w1 ⟨rfl, hb⟩
  go_wp2
  go_ret
  exact ⟨rfl, hb⟩
noncomputable def fitsL10 (r : Rx) (L : List ByteArray) : Bool := mayR r && L.all (fitX9 r)
set_option maxRecDepth 100000 in
set_option maxHeartbeats 4000000 in
theorem mFits_any {ok : Nat → Prop} (r : Rx) (L : List ByteArray) (al : Option Addr) (lcap : Nat) (hl : L.length ≤ 1000) (hs : mayR r = true → ∀ s ∈ L, s.size ≤ 60) (v : Value) (w : World) (h : ReAt ok w v r) (hR : StrsAt w al L) :
    Calls Try.prog 17 #[v, .slice al L.length lcap] w fun e w' => e = .returned (.bool (fitsL10 r L)) ∧ Below w.heap.size w w' := by
  have h0 := h
  obtain ⟨x0, x1, x2, x3, x4, xl, xn, xc, rfl⟩ := cells_re h
  obtain ⟨B, hB⟩ : ∃ B, B = w.alloc (.cells #[.int .u8 x0, .int .u64 x1, .int .u64 x2, .int .u64 x3, .int .u64 x4, .slice xl xn xc] 27) := ⟨_, rfl⟩
  have hbB : Below w.heap.size w B := by rw [hB]; exact bel_al _ _
  have hcB : B.heap[w.heap.size]? = some (.cells #[.int .u8 x0, .int .u64 x1, .int .u64 x2, .int .u64 x3, .int .u64 x4, .slice xl xn xc] 27) := by rw [hB]; exact blk_new _ _
  obtain ⟨C0, hC0⟩ : ∃ C0, C0 = B.alloc (.cells #[.int .u8 x0, .int .u64 x1, .int .u64 x2, .int .u64 x3, .int .u64 x4, .slice xl xn xc] 27) := ⟨_, rfl⟩
  have hbC : Below B.heap.size B C0 := by rw [hC0]; exact bel_al _ _
  have hrow : RowAt (fun _ => True) C0 (some ⟨B.heap.size, 0, none⟩) [r] := by rw [hC0]; exact row_new (h.below hbB)
  obtain ⟨gB, hgB⟩ : ∃ gB, gB = w.heap.size + 1 := ⟨_, rfl⟩
  rw [show B.heap.size = gB from by rw [hgB, hB]; simp] at hrow
  have KM := Lib.hid (may_one10 r gB C0 hrow)
  have HBB := Lib.hid hB
  have HCC := Lib.hid hC0
  have HGB := Lib.hid hgB
  have hwC : Below w.heap.size w C0 := hbB.trans (hbC.mono hbB.size)
  have BWC := Lib.hid hwC
  have CC0 := Lib.hid ((hbC.block _ (Array.getElem?_eq_some_iff.1 hcB).1).trans hcB)
  obtain ⟨c0, c1, c2, c3, c4, c5, -⟩ := cellsR hcB
  have hlw : w.heap.size < B.heap.size := (Array.getElem?_eq_some_iff.1 hcB).1
  have HR0 := Lib.hid (h0.below hwC)
  have HS0 := Lib.hid (strs_below10 hR hwC)
  clear h h0 hB hC0 hgB hrow hbB hbC hcB hwC hR
  unfold fitsL10
  cases hm : mayR r with
  | false =>
    rw [hm] at KM
    clear hm hs HS0
    go_enter Try.func17, Try.ntmps17
    go_wp2_with fail
    rw [← HBB.out]
    go_wp2_with fail
    rw [← HCC.out, ← HGB.out]
    refine KM.out.mono ?_
    rintro e w1 ⟨rfl, hb⟩
    have B1 := Lib.hid (BWC.out.trans (hb.mono BWC.out.size))
    clear hb
    go_wp2
    go_ret
    exact ⟨rfl, B1.out⟩
  | true =>
    rw [hm] at KM
    have KC := Lib.hid fun (w1 : World) (hb : Below C0.heap.size C0 w1) => containsS_of r w.heap.size L al lcap w1 hl (strs_below10 HS0.out hb) fun s hsm x hx => fits1_any r s (hs hm s hsm) w.heap.size _ x hm (HR0.out.below (hb.trans (hx.mono hb.size))) fun y0 y1 y2 y3 y4 y5 e => by
      injection e with e
      simp at e
      obtain ⟨rfl, rfl, rfl, rfl, rfl, rfl⟩ := e
      exact ((hb.trans (hx.mono hb.size)).block _ (Array.getElem?_eq_some_iff.1 CC0.out).1).trans CC0.out
    generalize L.all (fitX9 r) = q at *
    clear hm hs
    go_enter Try.func17, Try.ntmps17
    go_wp2_with fail
    rw [← HBB.out]
    go_wp2_with fail
    rw [← HCC.out, ← HGB.out]
    refine KM.out.mono ?_
    rintro e w1 ⟨rfl, hb⟩
    have K2 := Lib.hid (KC.out w1 hb)
    have B1 := Lib.hid (BWC.out.trans (hb.mono BWC.out.size))
    clear hb KC
    go_wp2_with fail
    refine K2.out.mono ?_
    rintro e w2 ⟨rfl, hb⟩
    have B2 := Lib.hid (B1.out.trans (hb.mono B1.out.size))
    clear hb
    go_wp2
    go_ret
    exact ⟨by simp, B2.out⟩
theorem fitsL10_one (r : Rx) (s : ByteArray) : fitsL10 r [s] = fitX9 r s := by
  unfold fitsL10
  cases hm : mayR r with
  | false => rw [fitX9_no hm]; rfl
  | true => simp
open Go.RowKit
def twoR (ra rb : Rx) : Rx := .node 4 Ws.nil [ra, rb]
def starR (ra : Rx) : Rx := .node 6 Ws.nil [ra]
theorem bare_nil10 : bareB Ws.nil = true := by decide
theorem may_two {ra rb : Rx} (ha : ra.size ≤ 900) (hb : rb.size ≤ 900) : mayR (twoR ra rb) = (mayR ra && mayR rb) := by
  have h1 : nodeGood 4 [ra, rb].length (bareB Ws.nil) = true := by rw [bare_nil10]; rfl
  have h2 : decide ((twoR ra rb).size ≤ 2000) = true := by simp [twoR, Rx.size, Rx.sizes]; omega
  have h3 : decide (ra.size ≤ 2000) = true := by simp; omega
  have h4 : decide (rb.size ≤ 2000) = true := by simp; omega
  unfold mayR mayN
  rw [h2, h3, h4, Bool.and_true, Bool.and_true, Bool.and_true]
  show (nodeGood 4 [ra, rb].length (bareB Ws.nil) && goodRs [ra, rb]) = _
  rw [h1]
  simp [goodRs]
theorem may_star {ra : Rx} (ha : ra.size ≤ 900) : mayR (starR ra) = mayR ra := by
  have h1 : nodeGood 6 [ra].length (bareB Ws.nil) = true := by rw [bare_nil10]; rfl
  have h2 : decide ((starR ra).size ≤ 2000) = true := by simp [starR, Rx.size, Rx.sizes]; omega
  have h3 : decide (ra.size ≤ 2000) = true := by simp; omega
  unfold mayR mayN
  rw [h2, h3, Bool.and_true, Bool.and_true]
  show (nodeGood 6 [ra].length (bareB Ws.nil) && goodRs [ra]) = _
  rw [h1]
  simp [goodRs]
theorem fitX9_fit {e : Ex} (we : e.Wf) (hs : e.size ≤ 2000) (s : ByteArray) : fitX9 e.rx s = true ↔ Ex.Fit e s.data.toList := by
  have hl : s.data.toList.length = s.size := by rw [Array.length_toList]; rfl
  rw [fitX9_iff we hs, ← hl, fits_ends e _ _ (Nat.le_refl _), List.take_length]
theorem ext_take10 (s : ByteArray) (n : Nat) : (s.extract 0 n).data.toList = s.data.toList.take n := by
  rw [ByteArray.data_extract, Array.toList_extract, List.extract_eq_take_drop]; simp
noncomputable def cutB (ra rb : Rx) (s : ByteArray) (i : Nat) : Bool := (List.range i).any fun j => fitX9 ra (s.extract 0 j) && fitX9 rb (s.extract j s.size)
noncomputable def anyM (ra : Rx) (s : ByteArray) (i : Nat) : Bool := decide (s.size = 0) || (List.range i).any fun j => fitX9 ra (s.extract 0 j) && (decide (0 < j) && fitX9 (starR ra) (s.extract j s.size))
theorem cutB_next (ra rb : Rx) (s : ByteArray) (i : Nat) : cutB ra rb s (i + 1) = (cutB ra rb s i || (fitX9 ra (s.extract 0 i) && fitX9 rb (s.extract i s.size))) := by
  unfold cutB
  rw [List.range_succ, List.any_append]
  simp
theorem anyM_next (ra : Rx) (s : ByteArray) (i : Nat) : anyM ra s (i + 1) = (anyM ra s i || (fitX9 ra (s.extract 0 i) && (decide (0 < i) && fitX9 (starR ra) (s.extract i s.size)))) := by
  unfold anyM
  rw [List.range_succ, List.any_append, ← Bool.or_assoc]
  simp
theorem two_fits {w : World} {ok ok' : Nat → Prop} {va vb : Value} {ra rb : Rx} (h1 : ReAt ok w va ra) (h2 : ReAt ok' w vb rb) (ha : ra.size ≤ 900) (hb : rb.size ≤ 900) (s : ByteArray) : fitsL10 (twoR ra rb) [s] = (cutB ra rb s (s.size + 1) && (mayR ra && mayR rb)) := by
  rw [fitsL10_one]
  cases hma : mayR ra with
  | false => rw [fitX9_no (by rw [may_two ha hb, hma]; rfl)]; simp
  | true =>
    cases hmb : mayR rb with
    | false => rw [fitX9_no (by rw [may_two ha hb, hmb]; simp)]; simp
    | true =>
      obtain ⟨ea, rfl, wa, za⟩ := may_ex h1 hma
      obtain ⟨eb, rfl, wb, zb⟩ := may_ex h2 hmb
      rw [Ex.size_rx] at ha hb
      have we : (Ex.seq ea eb).Wf := ⟨wa, wb⟩
      have hz : (Ex.seq ea eb).size ≤ 2000 := by simp only [Ex.size]; omega
      have hl : s.data.toList.length = s.size := by rw [Array.length_toList]; rfl
      rw [Bool.and_true, Bool.and_true, show twoR ea.rx eb.rx = (Ex.seq ea eb).rx from rfl, Bool.eq_iff_iff, fitX9_fit we hz, fit_seq]
      unfold cutB
      rw [List.any_eq_true]
      constructor
      · rintro ⟨u, v, e, hu, hv⟩
        refine ⟨u.length, List.mem_range.2 ?_, ?_⟩
        · have := congrArg List.length e
          rw [hl, List.length_append] at this
          omega
        · rw [Bool.and_eq_true, fitX9_fit wa za, fitX9_fit wb zb, ext_take10, ext_drop10, e]
          simp
          exact ⟨hu, hv⟩
      · rintro ⟨j, hj, h⟩
        rw [Bool.and_eq_true, fitX9_fit wa za, fitX9_fit wb zb, ext_take10, ext_drop10] at h
        exact ⟨_, _, (List.take_append_drop j s.data.toList).symm, h.1, h.2⟩
theorem star_fits {w : World} {ok : Nat → Prop} {va : Value} {ra : Rx} (h1 : ReAt ok w va ra) (ha : ra.size ≤ 900) (s : ByteArray) : fitsL10 (starR ra) [s] = (anyM ra s (s.size + 1) && mayR (starR ra)) := by
  rw [fitsL10_one]
  cases hma : mayR ra with
  | false =>
    have hm : mayR (starR ra) = false := by rw [may_star ha, hma]
    rw [fitX9_no hm, hm, Bool.and_false]
  | true =>
    have hm : mayR (starR ra) = true := by rw [may_star ha, hma]
    rw [hm, Bool.and_true]
    obtain ⟨ea, rfl, wa, za⟩ := may_ex h1 hma
    rw [Ex.size_rx] at ha
    have we : (Ex.star ea).Wf := wa
    have hz : (Ex.star ea).size ≤ 2000 := by simp only [Ex.size]; omega
    have hl : s.data.toList.length = s.size := by rw [Array.length_toList]; rfl
    unfold anyM
    rw [show starR ea.rx = (Ex.star ea).rx from rfl, Bool.eq_iff_iff, fitX9_fit we hz, fit_star, Bool.or_eq_true, decide_eq_true_eq, List.any_eq_true]
    constructor
    · rintro (h | ⟨c, u, v, e, hu, hv⟩)
      · rw [h] at hl; exact .inl hl.symm
      · refine .inr ⟨(c :: u).length, List.mem_range.2 ?_, ?_⟩
        · have := congrArg List.length e
          rw [hl, List.length_append] at this
          omega
        · rw [Bool.and_eq_true, Bool.and_eq_true, fitX9_fit wa za, fitX9_fit we hz, ext_take10, ext_drop10, e, List.take_left, List.drop_left]
          exact ⟨hu, by simp, hv⟩
    · rintro (h | ⟨j, hj, h⟩)
      · exact .inl (List.length_eq_zero_iff.1 (by rw [hl]; exact h))
      · rw [Bool.and_eq_true, Bool.and_eq_true, fitX9_fit wa za, fitX9_fit we hz, ext_take10, ext_drop10, decide_eq_true_eq] at h
        have hjs := List.mem_range.1 hj
        by_cases h0 : s.data.toList = []
        · exact .inl h0
        · right
          cases ht : s.data.toList.take j with
          | nil =>
            exfalso
            have := congrArg List.length ht
            rw [List.length_take, List.length_nil, hl] at this
            have hne : s.data.toList.length ≠ 0 := fun e => h0 (List.length_eq_zero_iff.1 e)
            rw [hl] at hne
            have h21 := h.2.1
            omega
          | cons c u =>
            rw [ht] at h
            exact ⟨c, u, _, by rw [← ht]; exact (List.take_append_drop j s.data.toList).symm, h.1, h.2.2⟩
end Go.Proofs.Ytiegejbbjlhpdaa
