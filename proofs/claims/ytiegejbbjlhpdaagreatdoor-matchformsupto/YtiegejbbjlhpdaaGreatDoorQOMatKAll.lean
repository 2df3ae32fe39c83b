/- Lemmas of mine, merged: QOMatK, QOMatBs. -/
import Derived.Test.YtiegejbbjlhpdaaGreatDoorQOMatHAll
import Derived.Test.YtiegejbbjlhpdaaGreatDoorQOReadJAll
import Derived.Test.YtiegejbbjlhpdaaGreatDoorQOSetAAll
import Derived.Test.YtiegejbbjlhpdaaGreatDoorQORexBAll
/- Lemmas of mine. -/
namespace Go.Proofs.YtiegejbbjlhpdaaGreatDoor
open Go.RowKit
def intsInv (l m : List Nat) (w : World) (y13 : Value) (W : World) : Prop := ∃ i : Nat, i ≤ l.length ∧ y13 = .int .i64 i ∧ l.take i = m.take i ∧ Below w.heap.size w W
set_option maxRecDepth 100000 in
set_option maxHeartbeats 4000000 in
theorem ints_any (l m : List Nat) (u v : Value) (w : World) (hl : l.length ≤ 100000) (hm : m.length ≤ 100000) (hu : OwnI w u l) (hv : OwnI w v m) :
    Calls Tryz.prog 10 #[u, v] w fun e w' => e = .returned (.bool (decide (l = m))) ∧ Below w.heap.size w w' := by
  have HU := Lib.hid hu
  have HV := Lib.hid hv
  obtain ⟨up, uc, rfl⟩ := own_len hu
  obtain ⟨vp, vc, rfl⟩ := own_len hv
  by_cases hlen : l.length = m.length
  · have d0 : ((l.length : Int) != (m.length : Int)) = false := by simp; omega
    have HLEN := Lib.hid hlen
    obtain ⟨q, hq⟩ : ∃ q, q = decide (l = m) := ⟨_, rfl⟩
    rw [← hq]
    have HQ := Lib.hid hq
    obtain ⟨nm, hnm⟩ : ∃ nm, nm = m.length := ⟨_, rfl⟩
    rw [← hnm] at d0 ⊢
    have HNM := Lib.hid hnm
    clear hu hv hlen hq hnm
    go_enter Tryz.func10, Tryz.ntmps10
    go_wp2_with fail
    go_loopw [13] (fun y13 wr => intsInv l m w y13 wr) (fun y13 _ => l.length - (intOf y13).toNat)
    case atStart => exact ⟨0, Nat.zero_le _, rfl, rfl, Below.refl _ _⟩
    case round =>
      obtain ⟨i, hi, rfl, ht, hb⟩ := hrel
      have HT := Lib.hid ht
      have HB := Lib.hid hb
      by_cases hlt : i < l.length
      · have hltm : i < m.length := by have := HLEN.out; omega
        have q1 : (i : Int) < (l.length : Int) := by omega
        have q2 : (i : Int) < (nm : Int) := by have := HLEN.out; have := HNM.out; omega
        obtain ⟨f, cap, cur, hvf, -⟩ := (HU.out.form).resolve_left (fun h => by rw [h.2] at hlt; exact absurd hlt (Nat.not_lt_zero _))
        injection hvf with hvf1 hvf2 hvf3
        subst hvf1
        obtain ⟨f', cap', cur', hvg, -⟩ := (HV.out.form).resolve_left (fun h => by rw [h.2] at hltm; exact absurd hltm (Nat.not_lt_zero _))
        injection hvg with hvg1 hvg2 hvg3
        subst hvg1
        have cu := (HU.out.below hb).cell i hlt
        have cv := (HV.out.below hb).cell i hltm
        have htl : l.take (i + 1) = l.take i ++ [l[i]] := List.take_succ_eq_append_getElem hlt
        have htm : m.take (i + 1) = m.take i ++ [m[i]] := List.take_succ_eq_append_getElem hltm
        obtain ⟨x, hx⟩ : ∃ x, x = l[i] := ⟨_, rfl⟩
        obtain ⟨y, hy⟩ : ∃ y, y = m[i] := ⟨_, rfl⟩
        rw [← hx] at cu htl
        rw [← hy] at cv htm
        have HL1 := Lib.hid htl
        have HM1 := Lib.hid htm
        have hne : x ≠ y → l ≠ m := fun hxy e => hxy (by
          subst e
          rw [hx, hy])
        have HNE := Lib.hid hne
        clear htl htm hx hy ht hb hvf2 hvf3 hvg2 hvg3 hne
        by_cases hxy : x = y
        · have d1 : ((x : Int) != (y : Int)) = false := by simp; omega
          have hend : intsInv l m w (.int .i64 ((i : Int) + 1)) wr.drew := ⟨i + 1, hlt, by simp, by rw [HL1.out, HM1.out, HT.out, hxy], HB.out.drew⟩
          have HEND := Lib.hid hend
          clear hend hxy
          go_wp2_with fail
          go_region
          go_wp2
          exact ⟨HEND.out, by simp [intOf]; omega⟩
        · have d1 : ((x : Int) != (y : Int)) = true := by simp; omega
          have hq : q = false := by rw [HQ.out]; simp; exact HNE.out hxy
          have HQ2 := Lib.hid hq
          clear hq hxy
          go_wp2_with fail
          go_region
          go_wp2
          go_ret
          exact ⟨by rw [HQ2.out]; rfl, HB.out.drew⟩
      · have q1 : ¬ (i : Int) < (l.length : Int) := by omega
        have hlm : l = m := by
          have h1 : l.take i = l := List.take_of_length_le (by omega)
          have h2 : m.take i = m := List.take_of_length_le (by have := HLEN.out; omega)
          rw [h1, h2] at ht
          exact ht
        have hq : q = true := by rw [HQ.out]; simp [hlm]
        have HQ2 := Lib.hid hq
        clear hq hlm ht hb
        go_wp2
        go_ret
        exact ⟨by rw [HQ2.out]; rfl, HB.out⟩
  · have d0 : ((l.length : Int) != (m.length : Int)) = true := by simp; omega
    have hq : decide (l = m) = false := by simp; exact fun e => hlen (by rw [e])
    rw [hq]
    clear hu hv hq hlen
    go_enter Tryz.func10, Tryz.ntmps10
    go_wp2
    go_ret
    exact ⟨rfl, Below.refl _ _⟩
def ex10 : Ex := .star (.cls (rngW 97 97))
theorem px_10 : PX .alt [97, 42] (.ok ex10 []) := PX.altOne (PX.rowOne (ex_atom 97 _ rfl (by decide) (by decide) (by decide)) rfl rfl) (notAt_nil _)
theorem rd_10 : rdOf ⟨#[97, 42]⟩ = .ok ex10 := by
  rw [rdOf_px (s := ⟨#[97, 42]⟩) px_10]
  unfold topR
  rw [if_neg (by decide)]
  simp only [if_true]
  rw [if_pos (by decide)]
theorem wf_10 : ex10.Wf := ⟨ofN_ok _, fun e => by
  have h : (rngW 97 97).has 97 = true := (by decide +kernel)
  rw [e, Ws.has_nil] at h
  cases h⟩
theorem star_cls {s : Ws} : ∀ {u : List UInt8}, Ex.Fit (.star (.cls s)) u ↔ ∀ c ∈ u, s.has c.toNat = true
  | [] => ⟨fun _ c hc => (by cases hc), fun _ => .none⟩
  | c :: u => by
    constructor
    · intro h
      rcases fit_star.1 h with h | ⟨c', v, w, h1, h2, h3⟩
      · cases h
      · obtain ⟨d, hd, hd2⟩ := fit_cls.1 h2
        injection hd with hd3 hd4
        subst hd3 hd4
        simp at h1
        obtain ⟨rfl, rfl⟩ := h1
        intro x hx
        rcases List.mem_cons.1 hx with e | e
        · rw [e]; exact hd2
        · exact star_cls.1 h3 x e
    · intro h
      exact Ex.Fit.more (u := [c]) (.cls (h c (by simp))) (star_cls.2 fun x hx => h x (List.mem_cons_of_mem _ hx))
theorem ends_10 : endsI ex10.rx ⟨#[97, 97, 98]⟩ 0 = [0, 1, 2] := by
  rw [show (0 : Int) = ((0 : Nat) : Int) from rfl, endsI_in wf_10 (by decide) (Nat.zero_le _)]
  refine rise_ext (endsN_lt _ _ _) (by decide) fun x => ?_
  rw [mem_endsN]
  have ha : (rngW 97 97).has 97 = true := by decide +kernel
  have hb : (rngW 97 97).has 98 = false := by decide +kernel
  constructor
  · intro h
    have hx := h.1
    have hf := (fits_ends _ _ _ hx).1 h
    have hx3 : x ≤ 3 := hx
    rcases (show x = 0 ∨ x = 1 ∨ x = 2 ∨ x = 3 by omega) with e | e | e | e
    · subst e; simp
    · subst e; simp
    · subst e; simp
    · subst e
      have := star_cls.1 hf 98 (by simp)
      rw [show ((98 : UInt8)).toNat = 98 from rfl, hb] at this
      cases this
  · intro h
    simp at h
    rcases h with e | e | e
    · subst e; exact (fits_ends _ _ _ (by decide)).2 (star_cls.2 fun c hc => by simp at hc)
    · subst e; exact (fits_ends _ _ _ (by decide)).2 (star_cls.2 fun c hc => by simp at hc; subst hc; exact ha)
    · subst e; exact (fits_ends _ _ _ (by decide)).2 (star_cls.2 fun c hc => by simp at hc; subst hc; exact ha)
set_option maxHeartbeats 4000000 in
set_option maxRecDepth 100000 in
theorem awake10_any (hRead : ReadC) (w : World) : Calls Tryz.prog 6 #[] w fun x w' => x = .returned (.bool true) ∧ Below w.heap.size w w' := by
  have K1 := Lib.hid (hRead ⟨#[97, 42]⟩ w (by decide))
  rw [rd_10] at K1
  have KE := Lib.hid fun (v : Value) W (h : ReAt (New w.heap.size) W v ex10.rx) => mEnds_any ex10.rx ⟨#[97, 97, 98]⟩ (by decide) 0 v W h
  rw [ends_10] at KE
  clear hRead
  go_enter Tryz.func6, Tryz.ntmps6
  go_wp2_with fail
  refine K1.out.mono ?_
  rintro e w1 ⟨hb1, v, rfl, hv⟩
  obtain ⟨x0, x1, x2, x3, x4, xl, xn, xc, rfl⟩ := cells_re hv
  have hal := bel_al w1 (.cells #[.int .u8 x0, .int .u64 x1, .int .u64 x2, .int .u64 x3, .int .u64 x4, .slice xl xn xc] 27)
  have HV := Lib.hid (hv.below hal)
  have HB := Lib.hid (hb1.trans (hal.mono hb1.size))
  clear hal hb1 hv K1
  go_wp2_with fail
  refine (KE.out _ _ HV.out).mono ?_
  rintro e w2 ⟨v2, rfl, hv2, hb2⟩
  obtain ⟨p, c, rfl⟩ := own_len hv2
  have hal := bel_al w2 (.cells #[.int .i64 0, .int .i64 1, .int .i64 2] 3)
  have HB2 := Lib.hid ((HB.out.trans (hb2.mono HB.out.size)).trans (hal.mono (Nat.le_trans HB.out.size hb2.size)))
  have hlit : OwnI (w2.alloc (.cells #[.int .i64 0, .int .i64 1, .int .i64 2] 3)) (.slice (some ⟨w2.heap.size, 0, none⟩) 3 3) [0, 1, 2] := OwnI.of (l := [0, 1, 2]) (blk_new w2 _) (Nat.le_refl _) (by decide) rfl rfl
  have KI := Lib.hid (ints_any [0, 1, 2] [0, 1, 2] _ _ _ (by decide) (by decide) (hv2.below hal) hlit)
  rw [show decide (([0, 1, 2] : List Nat) = [0, 1, 2]) = true from rfl] at KI
  clear hal hb2 hv2 HV HB KE hlit
  go_wp2_with fail
  refine KI.out.mono ?_
  rintro e w3 ⟨rfl, hb3⟩
  have HB3 := Lib.hid (HB2.out.trans (hb3.mono HB2.out.size))
  clear hb3 HB2 KI
  go_wp2
  go_ret
  exact ⟨rfl, HB3.out⟩
open Go.RowKit
def Bx10 (w W : World) (X : Obj) : Prop := W.heap[w.heap.size]? = some X ∧ Below w.heap.size w W
theorem Bx10.go {w W W' : World} {X : Obj} (h : Bx10 w W X) (hb : Below W.heap.size W W') : Bx10 w W' X := ⟨(hb.block _ (Array.getElem?_eq_some_iff.1 h.1).1).trans h.1, h.2.trans (hb.mono h.2.size)⟩
theorem Bx10.new (w : World) (X : Obj) : Bx10 w (w.alloc X) X := ⟨blk_new w _, bel_al w X⟩
theorem great10 {r : Rx} {n : Nat} (h : r.size ≤ 1000000000 → false = greatB r n) (hs : r.size ≤ 1048576) : r.size ≤ n := by
  have := (h (by omega)).symm
  simp [greatB] at this
  omega
end Go.Proofs.YtiegejbbjlhpdaaGreatDoor
