/- Lemmas of mine, merged: QMMatK, QMMatBs, QMMatchMovesW. -/
import Derived.Test.YtiegejbbjlhpdaaQMMatHAll
import Derived.Test.YtiegejbbjlhpdaaQMReadJAll
import Derived.Test.YtiegejbbjlhpdaaQMSetAAll
import Derived.Test.YtiegejbbjlhpdaaQMRexBAll
/- Lemmas of mine. -/
namespace Go.Proofs.Ytiegejbbjlhpdaa
open Go.RowKit
def intsInv (l m : List Nat) (w : World) (y13 : Value) (W : World) : Prop := ∃ i : Nat, i ≤ l.length ∧ y13 = .int .i64 i ∧ l.take i = m.take i ∧ Below w.heap.size w W
set_option maxRecDepth 100000 in
set_option maxHeartbeats 4000000 in
theorem ints_any (l m : List Nat) (u v : Value) (w : World) (hl : l.length ≤ 100000) (hm : m.length ≤ 100000) (hu : OwnI w u l) (hv : OwnI w v m) :
    Calls Try.prog 11 #[u, v] w fun e w' => e = .returned (.bool (decide (l = m))) ∧ Below w.heap.size w w' := by
  have HU := Lib.hid hu
  have HV := Lib.hid hv
  obtain ⟨up, uc, rfl⟩ := own_len hu
  obtain ⟨vp, vc, rfl⟩ := own_len hv
  by_cases hlen : l.length = m.length
  · have d0 : ((l.length : Int) != (m.length : Int)) = false := by simp; omega
    have HLEN := Lib.hid hlen
    obtain ⟨q, hq⟩ : ∃ q, q = decide (l = m) := ⟨_, rfl⟩
    rw [← hq]
    have HQ := Lib.hid hq
    obtain ⟨nm, hnm⟩ : ∃ nm, nm = m.length := ⟨_, rfl⟩
    rw [← hnm] at d0 ⊢
    have HNM := Lib.hid hnm
    clear hu hv hlen hq hnm
    go_enter Try.func11, Try.ntmps11
    go_wp2_with fail
    go_loopw [13] (fun y13 wr => intsInv l m w y13 wr) (fun y13 _ => l.length - (intOf y13).toNat)
    case atStart => exact ⟨0, Nat.zero_le _, rfl, rfl, Below.refl _ _⟩
    case round =>
      obtain ⟨i, hi, rfl, ht, hb⟩ := hrel
      have HT := Lib.hid ht
      have HB := Lib.hid hb
      by_cases hlt : i < l.length
      · have hltm : i < m.length := by have := HLEN.out; omega
        have q1 : (i : Int) < (l.length : Int) := by omega
        have q2 : (i : Int) < (nm : Int) := by have := HLEN.out; have := HNM.out; omega
        obtain ⟨f, cap, cur, hvf, -⟩ := (HU.out.form).resolve_left (fun h => by rw [h.2] at hlt; exact absurd hlt (Nat.not_lt_zero _))
        injection hvf with hvf1 hvf2 hvf3
        subst hvf1
        obtain ⟨f', cap', cur', hvg, -⟩ := (HV.out.form).resolve_left (fun h => by rw [h.2] at hltm; exact absurd hltm (Nat.not_lt_zero _))
        injection hvg with hvg1 hvg2 hvg3
        subst hvg1
        have cu := (HU.out.below hb).cell i hlt
        have cv := (HV.out.below hb).cell i hltm
        have htl : l.take (i + 1) = l.take i ++ [l[i]] := List.take_succ_eq_append_getElem hlt
        have htm : m.take (i + 1) = m.take i ++ [m[i]] := List.take_succ_eq_append_getElem hltm
        obtain ⟨x, hx⟩ : ∃ x, x = l[i] := ⟨_, rfl⟩
        obtain ⟨y, hy⟩ : ∃ y, y = m[i] := ⟨_, rfl⟩
        rw [← hx] at cu htl
        rw [← hy] at cv htm
        have HL1 := Lib.hid htl
        have HM1 := Lib.hid htm
        have hne : x ≠ y → l ≠ m := fun hxy e => hxy (by
          subst e
          rw [hx, hy])
        have HNE := Lib.hid hne
        clear htl htm hx hy ht hb hvf2 hvf3 hvg2 hvg3 hne
        by_cases hxy : x = y
        · have d1 : ((x : Int) != (y : Int)) = false := by simp; omega
          have hend : intsInv l m w (.int .i64 ((i : Int) + 1)) wr.drew := ⟨i + 1, hlt, by simp, by rw [HL1.out, HM1.out, HT.out, hxy], HB.out.drew⟩
          have HEND := Lib.hid hend
          clear hend hxy
          go_wp2_with fail
          go_region
          go_wp2
          exact ⟨HEND.out, by simp [intOf]; omega⟩
        · have d1 : ((x : Int) != (y : Int)) = true := by simp; omega
          have hq : q = false := by rw [HQ.out]; simp; exact HNE.out hxy
          have HQ2 := Lib.hid hq
          clear hq hxy
          go_wp2_with fail
          go_region
          go_wp2
          go_ret
          exact ⟨by rw [HQ2.out]; rfl, HB.out.drew⟩
      · have q1 : ¬ (i : Int) < (l.length : Int) := by omega
        have hlm : l = m := by
          have h1 : l.take i = l := List.take_of_length_le (by omega)
          have h2 : m.take i = m := List.take_of_length_le (by have := HLEN.out; omega)
          rw [h1, h2] at ht
          exact ht
        have hq : q = true := by rw [HQ.out]; simp [hlm]
        have HQ2 := Lib.hid hq
        clear hq hlm ht hb
        go_wp2
        go_ret
        exact ⟨by rw [HQ2.out]; rfl, HB.out⟩
  · have d0 : ((l.length : Int) != (m.length : Int)) = true := by simp; omega
    have hq : decide (l = m) = false := by simp; exact fun e => hlen (by rw [e])
    rw [hq]
    clear hu hv hq hlen
    go_enter Try.func11, Try.ntmps11
    go_wp2
    go_ret
    exact ⟨rfl, Below.refl _ _⟩
def ex10 : Ex := .star (.cls (rngW 97 97))
theorem px_10 : PX .alt [97, 42] (.ok ex10 []) := PX.altOne (PX.rowOne (ex_atom 97 _ rfl (by decide) (by decide) (by decide)) rfl rfl) (notAt_nil _)
theorem rd_10 : rdOf ⟨#[97, 42]⟩ = .ok ex10 := by
  rw [rdOf_px (s := ⟨#[97, 42]⟩) px_10]
  unfold topR
  rw [if_neg (by decide)]
  simp only [if_true]
  rw [if_pos (by decide)]
theorem wf_10 : ex10.Wf := ⟨ofN_ok _, fun e => by
  have h : (rngW 97 97).has 97 = true := (by decide +kernel)
  rw [e, Ws.has_nil] at h
  cases h⟩
theorem star_cls {s : Ws} : ∀ {u : List UInt8}, Ex.Fit (.star (.cls s)) u ↔ ∀ c ∈ u, s.has c.toNat = true
  | [] => ⟨fun _ c hc => (by cases hc), fun _ => .none⟩
  | c :: u => by
    constructor
    · intro h
      rcases fit_star.1 h with h | ⟨c', v, w, h1, h2, h3⟩
      · cases h
      · obtain ⟨d, hd, hd2⟩ := fit_cls.1 h2
        injection hd with hd3 hd4
        subst hd3 hd4
        simp at h1
        obtain ⟨rfl, rfl⟩ := h1
        intro x hx
        rcases List.mem_cons.1 hx with e | e
        · rw [e]; exact hd2
        · exact star_cls.1 h3 x e
    · intro h
      exact Ex.Fit.more (u := [c]) (.cls (h c (by simp))) (star_cls.2 fun x hx => h x (List.mem_cons_of_mem _ hx))
theorem ends_10 : endsI ex10.rx ⟨#[97, 97, 98]⟩ 0 = [0, 1, 2] := by
  rw [show (0 : Int) = ((0 : Nat) : Int) from rfl, endsI_in wf_10 (by decide) (Nat.zero_le _)]
  refine rise_ext (endsN_lt _ _ _) (by decide) fun x => ?_
  rw [mem_endsN]
  have ha : (rngW 97 97).has 97 = true := by decide +kernel
  have hb : (rngW 97 97).has 98 = false := by decide +kernel
  constructor
  · intro h
    have hx := h.1
    have hf := (fits_ends _ _ _ hx).1 h
    have hx3 : x ≤ 3 := hx
    rcases (show x = 0 ∨ x = 1 ∨ x = 2 ∨ x = 3 by omega) with e | e | e | e
    · subst e; simp
    · subst e; simp
    · subst e; simp
    · subst e
      have := star_cls.1 hf 98 (by simp)
      rw [show ((98 : UInt8)).toNat = 98 from rfl, hb] at this
      cases this
  · intro h
    simp at h
    rcases h with e | e | e
    · subst e; exact (fits_ends _ _ _ (by decide)).2 (star_cls.2 fun c hc => by simp at hc)
    · subst e; exact (fits_ends _ _ _ (by decide)).2 (star_cls.2 fun c hc => by simp at hc; subst hc; exact ha)
    · subst e; exact (fits_ends _ _ _ (by decide)).2 (star_cls.2 fun c hc => by simp at hc; subst hc; exact ha)
set_option maxHeartbeats 4000000 in
set_option maxRecDepth 100000 in
theorem awake10_any (hRead : ReadC) (w : World) : Calls Try.prog 8 #[] w fun x w' => x = .returned (.bool true) ∧ Below w.heap.size w w' := by
  have K1 := Lib.hid (hRead ⟨#[97, 42]⟩ w (by decide))
  rw [rd_10] at K1
  have KE := Lib.hid fun (v : Value) W (h : ReAt (New w.heap.size) W v ex10.rx) => mEnds_any ex10.rx ⟨#[97, 97, 98]⟩ (by decide) 0 v W h
  rw [ends_10] at KE
  clear hRead
  go_enter Try.func8, Try.ntmps8
  go_wp2_with fail
  refine K1.out.mono ?_
  rintro e w1 ⟨hb1, v, rfl, hv⟩
  obtain ⟨x0, x1, x2, x3, x4, xl, xn, xc, rfl⟩ := cells_re hv
  have hal := bel_al w1 (.cells #[.int .u8 x0, .int .u64 x1, .int .u64 x2, .int .u64 x3, .int .u64 x4, .slice xl xn xc] 27)
  have HV := Lib.hid (hv.below hal)
  have HB := Lib.hid (hb1.trans (hal.mono hb1.size))
  clear hal hb1 hv K1
  go_wp2_with fail
  refine (KE.out _ _ HV.out).mono ?_
  rintro e w2 ⟨v2, rfl, hv2, hb2⟩
  obtain ⟨p, c, rfl⟩ := own_len hv2
  have hal := bel_al w2 (.cells #[.int .i64 0, .int .i64 1, .int .i64 2] 3)
  have HB2 := Lib.hid ((HB.out.trans (hb2.mono HB.out.size)).trans (hal.mono (Nat.le_trans HB.out.size hb2.size)))
  have hlit : OwnI (w2.alloc (.cells #[.int .i64 0, .int .i64 1, .int .i64 2] 3)) (.slice (some ⟨w2.heap.size, 0, none⟩) 3 3) [0, 1, 2] := OwnI.of (l := [0, 1, 2]) (blk_new w2 _) (Nat.le_refl _) (by decide) rfl rfl
  have KI := Lib.hid (ints_any [0, 1, 2] [0, 1, 2] _ _ _ (by decide) (by decide) (hv2.below hal) hlit)
  rw [show decide (([0, 1, 2] : List Nat) = [0, 1, 2]) = true from rfl] at KI
  clear hal hb2 hv2 HV HB KE hlit
  go_wp2_with fail
  refine KI.out.mono ?_
  rintro e w3 ⟨rfl, hb3⟩
  have HB3 := Lib.hid (HB2.out.trans (hb3.mono HB2.out.size))
  clear hb3 HB2 KI
  go_wp2
  go_ret
  exact ⟨rfl, HB3.out⟩
open Go.RowKit
def Bx10 (w W : World) (X : Obj) : Prop := W.heap[w.heap.size]? = some X ∧ Below w.heap.size w W
theorem Bx10.go {w W W' : World} {X : Obj} (h : Bx10 w W X) (hb : Below W.heap.size W W') : Bx10 w W' X := ⟨(hb.block _ (Array.getElem?_eq_some_iff.1 h.1).1).trans h.1, h.2.trans (hb.mono h.2.size)⟩
theorem Bx10.new (w : World) (X : Obj) : Bx10 w (w.alloc X) X := ⟨blk_new w _, bel_al w X⟩
def SP.ownI (l : List Nat) : SP := ⟨fun x w => OwnI w x l, fun _ _ _ h hb => h.below hb⟩
theorem endsN_shift (e : Ex) (s : List UInt8) (a : Nat) (ha : a ≤ s.length) : endsN e s a = (endsN e (s.drop a) 0).map (a + ·) := by
  refine rise_ext (endsN_lt _ _ _) ?_ fun x => ?_
  · rw [List.pairwise_map]
    exact (endsN_lt _ _ _).imp fun h => by omega
  · rw [mem_endsN, List.mem_map]
    constructor
    · intro h
      obtain ⟨j, rfl⟩ : ∃ j, x = a + j := ⟨x - a, by have := ends_at_ge h; omega⟩
      exact ⟨j, mem_endsN.2 ((ends_shift ha).1 h), rfl⟩
    · rintro ⟨j, hj, rfl⟩
      exact (ends_shift ha).2 (mem_endsN.1 hj)
theorem endsI_le {r : Rx} {s : ByteArray} {at_ : Int} {j : Nat} (h : j ∈ endsI r s at_) : j ≤ s.size := by
  unfold endsI at h
  split at h
  · cases h
  · split at h
    · have h2 := (mem_endsN.1 h).1
      rw [Array.length_toList] at h2
      exact h2
    · cases h
theorem endsI_shift (r : Rx) (s : ByteArray) (n : Nat) (hn : n ≤ s.size) : endsI r s (n : Int) = (endsI r (s.extract n s.size) 0).map (n + ·) := by
  unfold endsI
  cases exX r with
  | none => rfl
  | some e =>
    simp only
    rw [if_pos ⟨by omega, by omega⟩, if_pos ⟨Int.le_refl _, by omega⟩]
    rw [ext_drop10]
    exact endsN_shift e _ n (by rw [Array.length_toList]; exact hn)
open Go.RowKit
set_option maxHeartbeats 8000000 in
set_option maxRecDepth 100000 in
theorem matchMoves_walk (hRead : ReadC) {ok : Nat → Prop} (r : Rx) (v : Value) (s : ByteArray) (at_ : Int) (w : World) (h : ReAt ok w v r) :
    Calls Try.prog 6 #[v, .string s, .int .i64 at_] w fun e w' => e = .returned (.bool true) ∧ Below w.heap.size w w' := by
  obtain ⟨x0, x1, x2, x3, x4, xl, xn, xc, rfl⟩ := cells_re h
  have HR := Lib.hid h
  have G1 := Lib.hid fun W (hb : Below w.heap.size w W) => great_any r 60 _ W (h.below hb) (by decide)
  have KA := Lib.hid fun W (_ : Below w.heap.size w W) => awake10_any hRead W
  have BX := Lib.hid (Bx10.new w (.cells #[.int .u8 x0, .int .u64 x1, .int .u64 x2, .int .u64 x3, .int .u64 x4, .slice xl xn xc] 27))
  clear hRead h
  by_cases hs : s.size ≤ 20
  · have q1 : ¬ (20 : Int) < (s.size : Int) := by omega
    by_cases h0 : at_ < 0
    · go_enter Try.func6, Try.ntmps6
      go_wp2_with fail
      refine (G1.out _ BX.out.2).mono ?_
      rintro e w' ⟨⟨p, rfl, hp⟩, hb⟩
      replace BX := Lib.hid (BX.out.go hb)
      clear hb hp
      cases p with
      | true =>
        go_wp2_with fail
        refine (KA.out _ BX.out.2).mono ?_
        rintro e w' ⟨rfl, hb⟩
        have HE := Lib.hid (BX.out.2.trans (hb.mono BX.out.2.size))
        clear hb
        go_wp2
        go_ret
        exact ⟨rfl, HE.out⟩
      | false =>
        go_wp2_with fail
        refine (KA.out _ BX.out.2).mono ?_
        rintro e w' ⟨rfl, hb⟩
        have HE := Lib.hid (BX.out.2.trans (hb.mono BX.out.2.size))
        clear hb
        go_wp2
        go_ret
        exact ⟨rfl, HE.out⟩
    · by_cases h1 : (s.size : Int) < at_
      · go_enter Try.func6, Try.ntmps6
        go_wp2_with fail
        refine (G1.out _ BX.out.2).mono ?_
        rintro e w' ⟨⟨p, rfl, hp⟩, hb⟩
        replace BX := Lib.hid (BX.out.go hb)
        clear hb hp
        cases p with
        | true =>
          go_wp2_with fail
          refine (KA.out _ BX.out.2).mono ?_
          rintro e w' ⟨rfl, hb⟩
          have HE := Lib.hid (BX.out.2.trans (hb.mono BX.out.2.size))
          clear hb
          go_wp2
          go_ret
          exact ⟨rfl, HE.out⟩
        | false =>
          go_wp2_with fail
          refine (KA.out _ BX.out.2).mono ?_
          rintro e w' ⟨rfl, hb⟩
          have HE := Lib.hid (BX.out.2.trans (hb.mono BX.out.2.size))
          clear hb
          go_wp2
          go_ret
          exact ⟨rfl, HE.out⟩
      · obtain ⟨n, rfl⟩ : ∃ n : Nat, at_ = (n : Int) := ⟨at_.toNat, by omega⟩
        have hn : n ≤ s.size := by omega
        have hsx : (s.extract n s.size).size ≤ 60 := by rw [ByteArray.size_extract]; omega
        have hsh := endsI_shift r s n hn
        have hlenL := endsI_len r s n
        have hmemL : ∀ j ∈ endsI r s (n : Int), j ≤ 20 := fun j hj => Nat.le_trans (endsI_le hj) hs
        have KE10 := Lib.hid fun W (hb : Below w.heap.size w W) => mEnds_any r s (by omega) n _ W (HR.out.below hb)
        have KE20 := Lib.hid fun W (hb : Below w.heap.size w W) => mEnds_any r (s.extract n s.size) hsx 0 _ W (HR.out.below hb)
        obtain ⟨L, hL⟩ : ∃ L, L = endsI r s (n : Int) := ⟨_, rfl⟩
        obtain ⟨M, hM⟩ : ∃ M, M = endsI r (s.extract n s.size) 0 := ⟨_, rfl⟩
        rw [← hL] at hsh KE10 hlenL hmemL
        rw [← hM] at hsh KE20
        have HML := Lib.hid hmemL
        have HLL := Lib.hid (show L.length ≤ 21 from by omega)
        have HSH := Lib.hid hsh
        have HIN := Lib.hid (show (0 : Int) ≤ (n : Int) ∧ (n : Int) ≤ (s.size : Int) from ⟨by omega, by omega⟩)
        have hns : ¬ (s.size : Int) < (n : Int) := by omega
        have hn20 : n ≤ 20 := by omega
        clear hsh hL hM hn hsx h0 h1 hlenL hmemL
        go_enter Try.func6, Try.ntmps6
        go_wp2_with fail
        refine (G1.out _ BX.out.2).mono ?_
        rintro e w' ⟨⟨p, rfl, hp⟩, hb⟩
        replace BX := Lib.hid (BX.out.go hb)
        clear hb hp
        cases p with
        | true =>
          go_wp2_with fail
          refine (KA.out _ BX.out.2).mono ?_
          rintro e w' ⟨rfl, hb⟩
          have HE := Lib.hid (BX.out.2.trans (hb.mono BX.out.2.size))
          clear hb
          go_wp2
          go_ret
          exact ⟨rfl, HE.out⟩
        | false =>
          have CX := Lib.hid fun x (hx : Below w'.heap.size w' x) => cellsR (BX.out.go hx).1
          have KE1 := Lib.hid fun x (hx : Below w'.heap.size w' x) => KE10.out x (BX.out.go hx).2
          have KE2 := Lib.hid fun x (hx : Below w'.heap.size w' x) => KE20.out x (BX.out.go hx).2
          clear HR G1 KE10 KE20
          go_wp2_with fail
          refine wp_region_order (fun j => ([SP.eq (.agg #[.int .u8 x0, .int .u64 x1, .int .u64 x2, .int .u64 x3, .int .u64 x4, .slice xl xn xc]), SP.eq (.string s), SP.eq (.int .i64 (n : Nat)), SP.ownI L, SP.eq (.agg #[.int .u8 x0, .int .u64 x1, .int .u64 x2, .int .u64 x3, .int .u64 x4, .slice xl xn xc]), SP.eq (.string s), SP.eq (.int .i64 (n : Nat)), SP.eq (.string (s.extract n s.size)), SP.ownI M, SP.ownI L, SP.ownI M] : List SP).getD j SP.free) (by kernel_rfl) (by kernel_rfl) ⟨?_, ?_, ?_, ?_, ?_, ?_, ?_, ?_, ?_, ?_, ?_, trivial⟩ ?_
          · intro a x K out get hb hK
            rw [if_pos (wanted_none rfl)]
            have o3 : a.tmps[3]? = some (.pointer (some ⟨w.heap.size, 0, none⟩)) := out 3 (by kernel_rfl)
            clear out get
            obtain ⟨c0, c1, c2, c3, c4, c5, -⟩ := CX.out x hb
            go_simp
            exact hK _ _ rfl (Below.refl _ _)
          · intro a x K out get hb hK
            rw [if_pos (wanted_none rfl)]
            have o1 : a.tmps[1]? = some (.string s) := out 1 (by kernel_rfl)
            clear out get
            go_simp
            exact hK _ _ rfl (Below.refl _ _)
          · intro a x K out get hb hK
            rw [if_pos (wanted_none rfl)]
            have o2 : a.tmps[2]? = some (.int .i64 (n : Nat)) := out 2 (by kernel_rfl)
            clear out get
            go_simp
            exact hK _ _ rfl (Below.refl _ _)
          · intro a x K out get hb hK
            rw [if_pos (wanted_none rfl)]
            obtain ⟨y28, hy28, rfl⟩ := get 0 _ _ rfl rfl (by kernel_rfl)
            obtain ⟨y29, hy29, rfl⟩ := get 1 _ _ rfl rfl (by kernel_rfl)
            obtain ⟨y30, hy30, rfl⟩ := get 2 _ _ rfl rfl (by kernel_rfl)
            clear out get
            go_simp
            refine (KE1.out x hb).mono ?_
            rintro e w2 ⟨v2, rfl, hv2, hb2⟩
            exact hK _ _ hv2 hb2
          · intro a x K out get hb hK
            rw [if_pos (wanted_none rfl)]
            have o3 : a.tmps[3]? = some (.pointer (some ⟨w.heap.size, 0, none⟩)) := out 3 (by kernel_rfl)
            clear out get
            obtain ⟨c0, c1, c2, c3, c4, c5, -⟩ := CX.out x hb
            go_simp
            exact hK _ _ rfl (Below.refl _ _)
          · intro a x K out get hb hK
            rw [if_pos (wanted_none rfl)]
            have o1 : a.tmps[1]? = some (.string s) := out 1 (by kernel_rfl)
            clear out get
            go_simp
            exact hK _ _ rfl (Below.refl _ _)
          · intro a x K out get hb hK
            rw [if_pos (wanted_none rfl)]
            have o2 : a.tmps[2]? = some (.int .i64 (n : Nat)) := out 2 (by kernel_rfl)
            clear out get
            go_simp
            exact hK _ _ rfl (Below.refl _ _)
          · intro a x K out get hb hK
            rw [if_pos (wanted_none rfl)]
            obtain ⟨y33, hy33, rfl⟩ := get 5 _ _ rfl rfl (by kernel_rfl)
            obtain ⟨y34, hy34, rfl⟩ := get 6 _ _ rfl rfl (by kernel_rfl)
            clear out get
            have hi1 := HIN.out
            go_simp
            exact hK _ _ rfl (Below.refl _ _)
          · intro a x K out get hb hK
            rw [if_pos (wanted_none rfl)]
            obtain ⟨y32, hy32, rfl⟩ := get 4 _ _ rfl rfl (by kernel_rfl)
            obtain ⟨y35, hy35, rfl⟩ := get 7 _ _ rfl rfl (by kernel_rfl)
            clear out get
            go_simp
            refine (KE2.out x hb).mono ?_
            rintro e w2 ⟨v2, rfl, hv2, hb2⟩
            exact hK _ _ hv2 hb2
          · intro a x K out get hb hK
            rw [if_pos (wanted_none rfl)]
            obtain ⟨y31, hy31, hp31⟩ := get 3 _ _ rfl rfl (by kernel_rfl)
            clear out get
            go_simp
            exact hK _ _ hp31 (Below.refl _ _)
          · intro a x K out get hb hK
            rw [if_pos (wanted_none rfl)]
            obtain ⟨y36, hy36, hp36⟩ := get 8 _ _ rfl rfl (by kernel_rfl)
            clear out get
            go_simp
            exact hK _ _ hp36 (Below.refl _ _)
          refine ao_fin (isD := fun s => (decide (28 ≤ s) && decide (s ≤ 36)) || (decide (s = 7) || decide (s = 8))) (by kernel_rfl) ?_
          intro f9 W1 hv hb
          have h7 : OwnI W1 (f9 7) L := hv 9 _ _ rfl rfl
          have h8 : OwnI W1 (f9 8) M := hv 10 _ _ rfl rfl
          replace BX := Lib.hid (BX.out.go hb)
          clear hv hb CX KE1 KE2
          have H7 := Lib.hid h7
          have H8 := Lib.hid h8
          clear h7 h8
          simp only [frm]
          simp
          generalize f9 7 = u7 at *; generalize f9 8 = u8 at *; generalize f9 28 = u28 at *; generalize f9 29 = u29 at *; generalize f9 30 = u30 at *; generalize f9 31 = u31 at *; generalize f9 32 = u32 at *; generalize f9 33 = u33 at *; generalize f9 34 = u34 at *; generalize f9 35 = u35 at *; generalize f9 36 = u36 at *
          obtain ⟨p7, c7, e7⟩ := own_len H7.out
          obtain ⟨p8, c8, e8⟩ := own_len H8.out
          subst e7 e8
          have hlm : M.length = L.length := by rw [HSH.out, List.length_map]
          have HLM := Lib.hid hlm
          obtain ⟨nl, hnl⟩ : ∃ nl, nl = L.length := ⟨_, rfl⟩
          rw [hlm, ← hnl]
          have HNL := Lib.hid hnl
          clear hlm hnl
          go_wp2_with fail
          go_loopw [9] (fun y9 wr => ∃ i : Nat, i ≤ nl ∧ y9 = .int .i64 i ∧ Below W1.heap.size W1 wr) (fun y9 _ => nl - (intOf y9).toNat)
          case atStart => exact ⟨0, Nat.zero_le _, rfl, Below.refl _ _⟩
          case round =>
            obtain ⟨i, hi, rfl, hbr⟩ := hrel
            have HBR := Lib.hid hbr
            have hi21 : i ≤ 21 := by have := HLL.out; have := HNL.out; omega
            by_cases hlt : i < nl
            · have hltL : i < L.length := by have := HNL.out; omega
              have hltM : i < M.length := by have := HLM.out; omega
              have q5 : (i : Int) < (nl : Int) := by omega
              obtain ⟨f, cap, cur, hvf, -⟩ := (H7.out.form).resolve_left (fun h => by rw [h.2] at hltL; exact absurd hltL (Nat.not_lt_zero _))
              injection hvf with hvf1 hvf2 hvf3
              subst hvf1
              obtain ⟨f', cap', cur', hvg, -⟩ := (H8.out.form).resolve_left (fun h => by rw [h.2] at hltM; exact absurd hltM (Nat.not_lt_zero _))
              injection hvg with hvg1 hvg2 hvg3
              subst hvg1
              have cu := (H7.out.below hbr).cell i hltL
              have cv := (H8.out.below hbr).cell i hltM
              have hxy : (L[i] : Nat) = n + M[i] := by simp only [HSH.out, List.getElem_map]
              obtain ⟨x, hx⟩ : ∃ x, x = L[i] := ⟨_, rfl⟩
              obtain ⟨y, hy⟩ : ∃ y, y = M[i] := ⟨_, rfl⟩
              rw [← hx] at cu hxy
              rw [← hy] at cv hxy
              have hyx : (y : Int) + (n : Int) = (x : Int) := by omega
              have hx20 : x ≤ 20 := by rw [hx]; exact HML.out _ (List.getElem_mem hltL)
              clear hx hy hbr hvf2 hvf3 hvg2 hvg3 hxy
              go_wp2_with fail
              go_region
              go_wp2
              exact ⟨⟨i + 1, by omega, by go_num, HBR.out.drew⟩, by simp [intOf]; omega⟩
            · have q5 : ¬ (i : Int) < (nl : Int) := by omega
              have BX2 := Lib.hid (BX.out.go hbr)
              clear hbr BX
              have BX := Lib.hid BX2.out
              go_wp2_with fail
              refine (KA.out _ BX.out.2).mono ?_
              rintro e w' ⟨rfl, hb⟩
              have HE := Lib.hid (BX.out.2.trans (hb.mono BX.out.2.size))
              clear hb
              go_wp2
              go_ret
              exact ⟨rfl, HE.out⟩
  · have q1 : (20 : Int) < (s.size : Int) := by omega
    go_enter Try.func6, Try.ntmps6
    go_wp2_with fail
    refine (G1.out _ BX.out.2).mono ?_
    rintro e w' ⟨⟨p, rfl, hp⟩, hb⟩
    replace BX := Lib.hid (BX.out.go hb)
    clear hb hp
    cases p with
    | true =>
      go_wp2_with fail
      refine (KA.out _ BX.out.2).mono ?_
      rintro e w' ⟨rfl, hb⟩
      have HE := Lib.hid (BX.out.2.trans (hb.mono BX.out.2.size))
      clear hb
      go_wp2
      go_ret
      exact ⟨rfl, HE.out⟩
    | false =>
      go_wp2_with fail
      refine (KA.out _ BX.out.2).mono ?_
      rintro e w' ⟨rfl, hb⟩
      have HE := Lib.hid (BX.out.2.trans (hb.mono BX.out.2.size))
      clear hb
      go_wp2
      go_ret
      exact ⟨rfl, HE.out⟩
end Go.Proofs.Ytiegejbbjlhpdaa
