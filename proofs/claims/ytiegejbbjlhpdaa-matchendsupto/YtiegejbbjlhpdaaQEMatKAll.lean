/- Lemmas of mine, merged: QEMatK, QEMatBs, QEMatR, QEMatS, QEMatchEndsW. -/
import Derived.Test.YtiegejbbjlhpdaaQEMatHAll
import Derived.Test.YtiegejbbjlhpdaaQEReadJAll
import Derived.Test.YtiegejbbjlhpdaaQESetAAll
import Derived.Test.YtiegejbbjlhpdaaQERexBAll
import Derived.Test.YtiegejbbjlhpdaaQERexKAll
/- Lemmas of mine. -/
namespace Go.Proofs.Ytiegejbbjlhpdaa
open Go.RowKit
def intsInv (l m : List Nat) (w : World) (y13 : Value) (W : World) : Prop := ∃ i : Nat, i ≤ l.length ∧ y13 = .int .i64 i ∧ l.take i = m.take i ∧ Below w.heap.size w W
set_option maxRecDepth 100000 in
set_option maxHeartbeats 4000000 in
theorem ints_any (l m : List Nat) (u v : Value) (w : World) (hl : l.length ≤ 100000) (hm : m.length ≤ 100000) (hu : OwnI w u l) (hv : OwnI w v m) :
    Calls Try.prog 11 #[u, v] w fun e w' => e = .returned (.bool (decide (l = m))) ∧ Below w.heap.size w w' := by
  have HU := Lib.hid hu
  have HV := Lib.hid hv
  obtain ⟨up, uc, rfl⟩ := own_len hu
  obtain ⟨vp, vc, rfl⟩ := own_len hv
  by_cases hlen : l.length = m.length
  · have d0 : ((l.length : Int) != (m.length : Int)) = false := by simp; omega
    have HLEN := Lib.hid hlen
    obtain ⟨q, hq⟩ : ∃ q, q = decide (l = m) := ⟨_, rfl⟩
    rw [← hq]
    have HQ := Lib.hid hq
    obtain ⟨nm, hnm⟩ : ∃ nm, nm = m.length := ⟨_, rfl⟩
    rw [← hnm] at d0 ⊢
    have HNM := Lib.hid hnm
    clear hu hv hlen hq hnm
    go_enter Try.func11, Try.ntmps11
    go_wp2_with fail
    go_loopw [13] (fun y13 wr => intsInv l m w y13 wr) (fun y13 _ => l.length - (intOf y13).toNat)
    case atStart => exact ⟨0, Nat.zero_le _, rfl, rfl, Below.refl _ _⟩
    case round =>
      obtain ⟨i, hi, rfl, ht, hb⟩ := hrel
      have HT := Lib.hid ht
      have HB := Lib.hid hb
      by_cases hlt : i < l.length
      · have hltm : i < m.length := by have := HLEN.out; omega
        have q1 : (i : Int) < (l.length : Int) := by omega
        have q2 : (i : Int) < (nm : Int) := by have := HLEN.out; have := HNM.out; omega
        obtain ⟨f, cap, cur, hvf, -⟩ := (HU.out.form).resolve_left (fun h => by rw [h.2] at hlt; exact absurd hlt (Nat.not_lt_zero _))
        injection hvf with hvf1 hvf2 hvf3
        subst hvf1
        obtain ⟨f', cap', cur', hvg, -⟩ := (HV.out.form).resolve_left (fun h => by rw [h.2] at hltm; exact absurd hltm (Nat.not_lt_zero _))
        injection hvg with hvg1 hvg2 hvg3
        subst hvg1
        have cu := (HU.out.below hb).cell i hlt
        have cv := (HV.out.below hb).cell i hltm
        have htl : l.take (i + 1) = l.take i ++ [l[i]] := List.take_succ_eq_append_getElem hlt
        have htm : m.take (i + 1) = m.take i ++ [m[i]] := List.take_succ_eq_append_getElem hltm
        obtain ⟨x, hx⟩ : ∃ x, x = l[i] := ⟨_, rfl⟩
        obtain ⟨y, hy⟩ : ∃ y, y = m[i] := ⟨_, rfl⟩
        rw [← hx] at cu htl
        rw [← hy] at cv htm
        have HL1 := Lib.hid htl
        have HM1 := Lib.hid htm
        have hne : x ≠ y → l ≠ m := fun hxy e => hxy (by
          subst e
          rw [hx, hy])
        have HNE := Lib.hid hne
        clear htl htm hx hy ht hb hvf2 hvf3 hvg2 hvg3 hne
        by_cases hxy : x = y
        · have d1 : ((x : Int) != (y : Int)) = false := by simp; omega
          have hend : intsInv l m w (.int .i64 ((i : Int) + 1)) wr.drew := ⟨i + 1, hlt, by simp, by rw [HL1.out, HM1.out, HT.out, hxy], HB.out.drew⟩
          have HEND := Lib.hid hend
          clear hend hxy
          go_wp2_with fail
          go_region
          go_wp2
          exact ⟨HEND.out, by simp [intOf]; omega⟩
        · have d1 : ((x : Int) != (y : Int)) = true := by simp; omega
          have hq : q = false := by rw [HQ.out]; simp; exact HNE.out hxy
          have HQ2 := Lib.hid hq
          clear hq hxy
          go_wp2_with fail
          go_region
          go_wp2
          go_ret
          exact ⟨by rw [HQ2.out]; rfl, HB.out.drew⟩
      · have q1 : ¬ (i : Int) < (l.length : Int) := by omega
        have hlm : l = m := by
          have h1 : l.take i = l := List.take_of_length_le (by omega)
          have h2 : m.take i = m := List.take_of_length_le (by have := HLEN.out; omega)
          rw [h1, h2] at ht
          exact ht
        have hq : q = true := by rw [HQ.out]; simp [hlm]
        have HQ2 := Lib.hid hq
        clear hq hlm ht hb
        go_wp2
        go_ret
        exact ⟨by rw [HQ2.out]; rfl, HB.out⟩
  · have d0 : ((l.length : Int) != (m.length : Int)) = true := by simp; omega
    have hq : decide (l = m) = false := by simp; exact fun e => hlen (by rw [e])
    rw [hq]
    clear hu hv hq hlen
    go_enter Try.func11, Try.ntmps11
    go_wp2
    go_ret
    exact ⟨rfl, Below.refl _ _⟩
def ex10 : Ex := .star (.cls (rngW 97 97))
theorem px_10 : PX .alt [97, 42] (.ok ex10 []) := PX.altOne (PX.rowOne (ex_atom 97 _ rfl (by decide) (by decide) (by decide)) rfl rfl) (notAt_nil _)
theorem rd_10 : rdOf ⟨#[97, 42]⟩ = .ok ex10 := by
  rw [rdOf_px (s := ⟨#[97, 42]⟩) px_10]
  unfold topR
  rw [if_neg (by decide)]
  simp only [if_true]
  rw [if_pos (by decide)]
theorem wf_10 : ex10.Wf := ⟨ofN_ok _, fun e => by
  have h : (rngW 97 97).has 97 = true := (by decide +kernel)
  rw [e, Ws.has_nil] at h
  cases h⟩
theorem star_cls {s : Ws} : ∀ {u : List UInt8}, Ex.Fit (.star (.cls s)) u ↔ ∀ c ∈ u, s.has c.toNat = true
  | [] => ⟨fun _ c hc => (by cases hc), fun _ => .none⟩
  | c :: u => by
    constructor
    · intro h
      rcases fit_star.1 h with h | ⟨c', v, w, h1, h2, h3⟩
      · cases h
      · obtain ⟨d, hd, hd2⟩ := fit_cls.1 h2
        injection hd with hd3 hd4
        subst hd3 hd4
        simp at h1
        obtain ⟨rfl, rfl⟩ := h1
        intro x hx
        rcases List.mem_cons.1 hx with e | e
        · rw [e]; exact hd2
        · exact star_cls.1 h3 x e
    · intro h
      exact Ex.Fit.more (u := [c]) (.cls (h c (by simp))) (star_cls.2 fun x hx => h x (List.mem_cons_of_mem _ hx))
theorem ends_10 : endsI ex10.rx ⟨#[97, 97, 98]⟩ 0 = [0, 1, 2] := by
  rw [show (0 : Int) = ((0 : Nat) : Int) from rfl, endsI_in wf_10 (by decide) (Nat.zero_le _)]
  refine rise_ext (endsN_lt _ _ _) (by decide) fun x => ?_
  rw [mem_endsN]
  have ha : (rngW 97 97).has 97 = true := by decide +kernel
  have hb : (rngW 97 97).has 98 = false := by decide +kernel
  constructor
  · intro h
    have hx := h.1
    have hf := (fits_ends _ _ _ hx).1 h
    have hx3 : x ≤ 3 := hx
    rcases (show x = 0 ∨ x = 1 ∨ x = 2 ∨ x = 3 by omega) with e | e | e | e
    · subst e; simp
    · subst e; simp
    · subst e; simp
    · subst e
      have := star_cls.1 hf 98 (by simp)
      rw [show ((98 : UInt8)).toNat = 98 from rfl, hb] at this
      cases this
  · intro h
    simp at h
    rcases h with e | e | e
    · subst e; exact (fits_ends _ _ _ (by decide)).2 (star_cls.2 fun c hc => by simp at hc)
    · subst e; exact (fits_ends _ _ _ (by decide)).2 (star_cls.2 fun c hc => by simp at hc; subst hc; exact ha)
    · subst e; exact (fits_ends _ _ _ (by decide)).2 (star_cls.2 fun c hc => by simp at hc; subst hc; exact ha)
set_option maxHeartbeats 4000000 in
set_option maxRecDepth 100000 in
theorem awake10_any (hRead : ReadC) (w : World) : Calls Try.prog 8 #[] w fun x w' => x = .returned (.bool true) ∧ Below w.heap.size w w' := by
  have K1 := Lib.hid (hRead ⟨#[97, 42]⟩ w (by decide))
  rw [rd_10] at K1
  have KE := Lib.hid fun (v : Value) W (h : ReAt (New w.heap.size) W v ex10.rx) => mEnds_any ex10.rx ⟨#[97, 97, 98]⟩ (by decide) 0 v W h
  rw [ends_10] at KE
  clear hRead
  go_enter Try.func8, Try.ntmps8
  go_wp2_with fail
  refine K1.out.mono ?_
  rintro e w1 ⟨hb1, v, rfl, hv⟩
  obtain ⟨x0, x1, x2, x3, x4, xl, xn, xc, rfl⟩ := cells_re hv
  have hal := bel_al w1 (.cells #[.int .u8 x0, .int .u64 x1, .int .u64 x2, .int .u64 x3, .int .u64 x4, .slice xl xn xc] 27)
  have HV := Lib.hid (hv.below hal)
  have HB := Lib.hid (hb1.trans (hal.mono hb1.size))
  clear hal hb1 hv K1
  go_wp2_with fail
  refine (KE.out _ _ HV.out).mono ?_
  rintro e w2 ⟨v2, rfl, hv2, hb2⟩
  obtain ⟨p, c, rfl⟩ := own_len hv2
  have hal := bel_al w2 (.cells #[.int .i64 0, .int .i64 1, .int .i64 2] 3)
  have HB2 := Lib.hid ((HB.out.trans (hb2.mono HB.out.size)).trans (hal.mono (Nat.le_trans HB.out.size hb2.size)))
  have hlit : OwnI (w2.alloc (.cells #[.int .i64 0, .int .i64 1, .int .i64 2] 3)) (.slice (some ⟨w2.heap.size, 0, none⟩) 3 3) [0, 1, 2] := OwnI.of (l := [0, 1, 2]) (blk_new w2 _) (Nat.le_refl _) (by decide) rfl rfl
  have KI := Lib.hid (ints_any [0, 1, 2] [0, 1, 2] _ _ _ (by decide) (by decide) (hv2.below hal) hlit)
  rw [show decide (([0, 1, 2] : List Nat) = [0, 1, 2]) = true from rfl] at KI
  clear hal hb2 hv2 HV HB KE hlit
  go_wp2_with fail
  refine KI.out.mono ?_
  rintro e w3 ⟨rfl, hb3⟩
  have HB3 := Lib.hid (HB2.out.trans (hb3.mono HB2.out.size))
  clear hb3 HB2 KI
  go_wp2
  go_ret
  exact ⟨rfl, HB3.out⟩
open Go.RowKit
def Bx10 (w W : World) (X : Obj) : Prop := W.heap[w.heap.size]? = some X ∧ Below w.heap.size w W
theorem Bx10.go {w W W' : World} {X : Obj} (h : Bx10 w W X) (hb : Below W.heap.size W W') : Bx10 w W' X := ⟨(hb.block _ (Array.getElem?_eq_some_iff.1 h.1).1).trans h.1, h.2.trans (hb.mono h.2.size)⟩
theorem Bx10.new (w : World) (X : Obj) : Bx10 w (w.alloc X) X := ⟨blk_new w _, bel_al w X⟩
theorem great10 {r : Rx} {n : Nat} (h : r.size ≤ 1000000000 → false = greatB r n) (hs : r.size ≤ 1048576) : r.size ≤ n := by
  have := (h (by omega)).symm
  simp [greatB] at this
  omega
def SP.ownI (l : List Nat) : SP := ⟨fun x w => OwnI w x l, fun _ _ _ h hb => h.below hb⟩
theorem endsI_le {r : Rx} {s : ByteArray} {at_ : Int} {j : Nat} (h : j ∈ endsI r s at_) : j ≤ s.size := by
  unfold endsI at h
  split at h
  · cases h
  · split at h
    · have h2 := (mem_endsN.1 h).1
      rw [Array.length_toList] at h2
      exact h2
    · cases h
open Go.RowKit
noncomputable def endsB (r : Rx) (s : ByteArray) (n : Nat) : List Bool := match exX r with
  | none => List.replicate (s.size + 1) false
  | some e => endsL e s.data.toList ((List.replicate (s.size + 1) false).set n true)
set_option maxHeartbeats 4000000 in
set_option maxRecDepth 100000 in
theorem refEndsIn (H : EndsC) {ok : Nat → Prop} (r : Rx) (s : ByteArray) (v : Value) (w : World) (n : Nat) (hn : n ≤ s.size) (hbig : r.size ≤ 1000000) (hz : s.size ≤ 100000) (h : ReAt ok w v r) :
    Calls Try.prog 29 #[v, .string s, .int .i64 (n : Nat)] w (AnyBl (endsB r s n) w) := by
  obtain ⟨x0, x1, x2, x3, x4, xl, xn, xc, rfl⟩ := cells_re h
  have HH := Lib.hid h
  obtain ⟨nF, hnF⟩ : ∃ m : Nat, m = s.size + 1 := ⟨_, rfl⟩
  have hmk := make_bools nF (by omega)
  rw [show (nF : Int) = (s.size : Int) + 1 from by omega] at hmk
  obtain ⟨arr, harr⟩ : ∃ a, a = ((List.replicate nF false).map Value.bool).toArray := ⟨_, rfl⟩
  rw [← harr] at hmk
  have hb0 : Below w.heap.size w (w.alloc (.cells #[.int .u8 x0, .int .u64 x1, .int .u64 x2, .int .u64 x3, .int .u64 x4, .slice xl xn xc] 27)) := (Below.refl _ w).alloc (Nat.le_refl _) _
  have X0 := Lib.hid (blk_new w (.cells #[.int .u8 x0, .int .u64 x1, .int .u64 x2, .int .u64 x3, .int .u64 x4, .slice xl xn xc] 27))
  have B0 := Lib.hid hb0
  have hsz : ¬ (s.size : Int) < (n : Int) := by omega
  obtain ⟨W, hW⟩ : ∃ x, x = (w.alloc (.cells #[.int .u8 x0, .int .u64 x1, .int .u64 x2, .int .u64 x3, .int .u64 x4, .slice xl xn xc] 27)).alloc (.cells arr 4) := ⟨_, rfl⟩
  obtain ⟨gF, hgF⟩ : ∃ x, x = w.heap.size + 1 := ⟨_, rfl⟩
  have hF0 : BoolsAt (fun g => (w.alloc (.cells #[.int .u8 x0, .int .u64 x1, .int .u64 x2, .int .u64 x3, .int .u64 x4, .slice xl xn xc] 27)).heap.size ≤ g) W (.slice (some ⟨gF, 0, none⟩) nF nF) (List.replicate nF false) := by
    rw [hW, show gF = (w.alloc (.cells #[.int .u8 x0, .int .u64 x1, .int .u64 x2, .int .u64 x3, .int .u64 x4, .slice xl xn xc] 27)).heap.size from by rw [hgF]; simp, harr]
    have := bools_new (w.alloc (.cells #[.int .u8 x0, .int .u64 x1, .int .u64 x2, .int .u64 x3, .int .u64 x4, .slice xl xn xc] 27)) (List.replicate nF false) (by simp [maxLen]; omega)
    simpa only [List.length_replicate] using this
  have BW := Lib.hid (show Below w.heap.size w W from by rw [hW]; exact B0.out.alloc (by simp) _)
  have XW := Lib.hid (show W.heap[w.heap.size]? = some (.cells #[.int .u8 x0, .int .u64 x1, .int .u64 x2, .int .u64 x3, .int .u64 x4, .slice xl xn xc] 27) from by rw [hW]; exact (Below.heap_alloc _ _ _ (by simp)).trans X0.out)
  have FW := Lib.hid hF0
  have KM := Lib.hid (refMay_any r _ W hbig (h.below BW.out))
  have hlt : w.heap.size < W.heap.size := by rw [hW]; simp; omega
  have hq : endsB r s n = match exX r with
    | none => List.replicate nF false
    | some e => endsL e s.data.toList ((List.replicate nF false).set n true) := by unfold endsB; rw [hnF]
  have HN := Lib.hid hnF
  clear hF0 hb0 X0 B0
  cases hm : mayR r with
  | false =>
    rw [hq, exX_no hm]
    rw [hm] at KM
    clear hq hm HH h hnF harr
    go_enter Try.func29, Try.ntmps29
    go_wp2_with fail
    rw [← hW, ← hgF]
    clear hW hgF
    obtain ⟨c0, c1, c2, c3, c4, c5, -⟩ := cellsR XW.out
    go_wp2_with fail
    refine KM.out.mono ?_
    rintro e w1 ⟨rfl, hb1⟩
    have B1 := Lib.hid (BW.out.trans (hb1.mono BW.out.size))
    have F1 := Lib.hid (show BoolsAt (fun _ => True) _ _ (List.replicate nF false) from (FW.out.below hb1).imp fun _ _ => trivial)
    clear hb1 BW FW
    go_wp2
    go_ret
    exact ⟨_, rfl, F1.out, B1.out⟩
  | true =>
    obtain ⟨e0, he0, we, hs⟩ := may_ex h hm
    rw [hq, ← he0, exX_of we hs]
    show Calls _ _ _ w (AnyBl (endsL e0 s.data.toList ((List.replicate nF false).set n true)) w)
    rw [hm] at KM
    have KM2 := Lib.hid fun x (hb : Below W.heap.size W x) => mark_any (ok := fun _ => True) (List.replicate nF false) n (.slice (some ⟨gF, 0, none⟩) nF nF) x (by simp; omega) (by simp; omega) ((FW.out.below hb).imp fun _ _ => trivial)
    have KE := Lib.hid fun x (hb : Below W.heap.size W x) y (hp : BoolsAt (fun _ => True) x y ((List.replicate nF false).set n true)) => ends_any H e0 we hs s _ (.agg #[.int .u8 x0, .int .u64 x1, .int .u64 x2, .int .u64 x3, .int .u64 x4, .slice xl xn xc]) y x hz (by simp; omega) (by rw [he0]; exact HH.out.below (BW.out.trans (hb.mono BW.out.size))) hp
    obtain ⟨mkd, hmkd⟩ : ∃ l, l = (List.replicate nF false).set n true := ⟨_, rfl⟩
    obtain ⟨res, hres⟩ : ∃ l, l = endsL e0 s.data.toList mkd := ⟨_, rfl⟩
    rw [← hmkd, ← hres]
    rw [← hmkd] at KM2 KE
    rw [← hres] at KE
    clear hq hm HH h he0 hmkd hres hnF harr
    go_enter Try.func29, Try.ntmps29
    go_wp2_with fail
    rw [← hW, ← hgF]
    clear hW hgF
    obtain ⟨c0, c1, c2, c3, c4, c5, -⟩ := cellsR XW.out
    go_wp2_with fail
    refine KM.out.mono ?_
    rintro e w1 ⟨rfl, hb1⟩
    have CX := Lib.hid fun x (hx : Below w1.heap.size w1 x) => cellsR (((hb1.trans (hx.mono hb1.size)).block _ hlt).trans XW.out)
    replace KM2 := Lib.hid fun x (hx : Below w1.heap.size w1 x) => KM2.out x (hb1.trans (hx.mono hb1.size))
    replace KE := Lib.hid fun x (hx : Below w1.heap.size w1 x) => KE.out x (hb1.trans (hx.mono hb1.size))
    have B1 := Lib.hid (BW.out.trans (hb1.mono BW.out.size))
    clear hb1 c0 c1 c2 c3 c4 c5 XW BW FW KM
    go_wp2_with fail
    refine wp_region_order (fun i => ([SP.eq (.agg #[.int .u8 x0, .int .u64 x1, .int .u64 x2, .int .u64 x3, .int .u64 x4, .slice xl xn xc]), SP.eq (.string s), SP.eq (.slice (some ⟨gF, 0, none⟩) nF nF), SP.eq (.int .i64 (n : Nat)), SP.bools mkd, SP.bools res, SP.bools res] : List SP).getD i SP.free) (by kernel_rfl) (by kernel_rfl) ⟨?_, ?_, ?_, ?_, ?_, ?_, ?_, trivial⟩ ?_
    · intro a x K out get hb hK
      rw [if_pos (wanted_none rfl)]
      have o3 : a.tmps[3]? = some (.pointer (some ⟨w.heap.size, 0, none⟩)) := out 3 (by kernel_rfl)
      obtain ⟨c0, c1, c2, c3, c4, c5, -⟩ := CX.out x hb
      clear out get
      go_simp
      exact hK _ _ rfl (Below.refl _ _)
    · intro a x K out get hb hK
      rw [if_pos (wanted_none rfl)]
      have o1 : a.tmps[1]? = some (.string s) := out 1 (by kernel_rfl)
      clear out get
      go_simp
      exact hK _ _ rfl (Below.refl _ _)
    · intro a x K out get hb hK
      rw [if_pos (wanted_none rfl)]
      have o7 : a.tmps[7]? = some (.slice (some ⟨gF, 0, none⟩) nF nF) := out 7 (by kernel_rfl)
      clear out get
      go_simp
      exact hK _ _ rfl (Below.refl _ _)
    · intro a x K out get hb hK
      rw [if_pos (wanted_none rfl)]
      have o2 : a.tmps[2]? = some (.int .i64 (n : Nat)) := out 2 (by kernel_rfl)
      clear out get
      go_simp
      exact hK _ _ rfl (Below.refl _ _)
    · intro a x K out get hb hK
      rw [if_pos (wanted_none rfl)]
      obtain ⟨y28, hy28, rfl⟩ := get 2 _ _ rfl rfl (by kernel_rfl)
      obtain ⟨y29, hy29, rfl⟩ := get 3 _ _ rfl rfl (by kernel_rfl)
      clear out get
      go_simp
      refine (KM2.out x hb).mono ?_
      rintro e w2 ⟨v2, rfl, hv2, hb2⟩
      exact hK _ _ (hv2.imp fun _ _ => trivial) hb2
    · intro a x K out get hb hK
      rw [if_pos (wanted_none rfl)]
      obtain ⟨y26, hy26, rfl⟩ := get 0 _ _ rfl rfl (by kernel_rfl)
      obtain ⟨y27, hy27, rfl⟩ := get 1 _ _ rfl rfl (by kernel_rfl)
      obtain ⟨y30, hy30, hp30⟩ := get 4 _ _ rfl rfl (by kernel_rfl)
      clear out get
      go_simp
      refine (KE.out x hb _ hp30).mono ?_
      rintro e w2 ⟨v2, rfl, hv2, hb2⟩
      exact hK _ _ hv2 hb2
    · intro a x K out get hb hK
      rw [if_pos (wanted_none rfl)]
      obtain ⟨y31, hy31, hp31⟩ := get 5 _ _ rfl rfl (by kernel_rfl)
      clear out get
      go_simp
      exact hK _ _ hp31 (Below.refl _ _)
    refine ao_fin (isD := fun s => (decide (26 ≤ s) && decide (s ≤ 31)) || decide (s = 6)) (by kernel_rfl) ?_
    intro f W5 hv hb5
    have f6 : BoolsAt (fun _ => True) W5 (f 6) res := hv 6 _ _ rfl rfl
    clear hv
    simp only [frm]
    simp
    generalize f 6 = u6 at *
    go_wp2
    go_ret
    exact ⟨_, rfl, f6, B1.out.trans (hb5.mono B1.out.size)⟩
set_option maxHeartbeats 4000000 in
set_option maxRecDepth 100000 in
theorem refEndsOut {ok : Nat → Prop} (r : Rx) (s : ByteArray) (v : Value) (w : World) (at_ : Int) (hout : at_ < 0 ∨ (s.size : Int) < at_) (hbig : r.size ≤ 1000000) (hz : s.size ≤ 100000) (h : ReAt ok w v r) :
    Calls Try.prog 29 #[v, .string s, .int .i64 at_] w (AnyBl (List.replicate (s.size + 1) false) w) := by
  obtain ⟨x0, x1, x2, x3, x4, xl, xn, xc, rfl⟩ := cells_re h
  have HH := Lib.hid h
  obtain ⟨nF, hnF⟩ : ∃ n : Nat, n = s.size + 1 := ⟨_, rfl⟩
  have hmk := make_bools nF (by omega)
  rw [show (nF : Int) = (s.size : Int) + 1 from by omega] at hmk
  obtain ⟨arr, harr⟩ : ∃ a, a = ((List.replicate nF false).map Value.bool).toArray := ⟨_, rfl⟩
  rw [← harr] at hmk
  have hb0 : Below w.heap.size w (w.alloc (.cells #[.int .u8 x0, .int .u64 x1, .int .u64 x2, .int .u64 x3, .int .u64 x4, .slice xl xn xc] 27)) := (Below.refl _ w).alloc (Nat.le_refl _) _
  have X0 := Lib.hid (blk_new w (.cells #[.int .u8 x0, .int .u64 x1, .int .u64 x2, .int .u64 x3, .int .u64 x4, .slice xl xn xc] 27))
  have B0 := Lib.hid hb0
  obtain ⟨W, hW⟩ : ∃ x, x = (w.alloc (.cells #[.int .u8 x0, .int .u64 x1, .int .u64 x2, .int .u64 x3, .int .u64 x4, .slice xl xn xc] 27)).alloc (.cells arr 4) := ⟨_, rfl⟩
  obtain ⟨gF, hgF⟩ : ∃ x, x = w.heap.size + 1 := ⟨_, rfl⟩
  have hF0 : BoolsAt (fun g => (w.alloc (.cells #[.int .u8 x0, .int .u64 x1, .int .u64 x2, .int .u64 x3, .int .u64 x4, .slice xl xn xc] 27)).heap.size ≤ g) W (.slice (some ⟨gF, 0, none⟩) nF nF) (List.replicate nF false) := by
    rw [hW, show gF = (w.alloc (.cells #[.int .u8 x0, .int .u64 x1, .int .u64 x2, .int .u64 x3, .int .u64 x4, .slice xl xn xc] 27)).heap.size from by rw [hgF]; simp, harr]
    have := bools_new (w.alloc (.cells #[.int .u8 x0, .int .u64 x1, .int .u64 x2, .int .u64 x3, .int .u64 x4, .slice xl xn xc] 27)) (List.replicate nF false) (by simp [maxLen]; omega)
    simpa only [List.length_replicate] using this
  have BW := Lib.hid (show Below w.heap.size w W from by rw [hW]; exact B0.out.alloc (by simp) _)
  have XW := Lib.hid (show W.heap[w.heap.size]? = some (.cells #[.int .u8 x0, .int .u64 x1, .int .u64 x2, .int .u64 x3, .int .u64 x4, .slice xl xn xc] 27) from by rw [hW]; exact (Below.heap_alloc _ _ _ (by simp)).trans X0.out)
  have FW := Lib.hid hF0
  have KM := Lib.hid (refMay_any r _ W hbig (h.below BW.out))
  have hlt : w.heap.size < W.heap.size := by rw [hW]; simp; omega
  have HN := Lib.hid hnF
  have HW0 := Lib.hid hW
  have HGF := Lib.hid hgF
  rw [← hnF]
  clear hF0 hb0 X0 B0 hnF harr h HH hW hgF
  generalize mayR r = q at *
  by_cases h0 : at_ < 0
  · clear hout
    go_enter Try.func29, Try.ntmps29
    go_wp2_with fail
    rw [← HW0.out, ← HGF.out]
    obtain ⟨c0, c1, c2, c3, c4, c5, -⟩ := cellsR XW.out
    go_wp2_with fail
    refine KM.out.mono ?_
    rintro e w1 ⟨rfl, hb1⟩
    have B1 := Lib.hid (BW.out.trans (hb1.mono BW.out.size))
    have F1 := Lib.hid (show BoolsAt (fun _ => True) _ _ (List.replicate nF false) from (FW.out.below hb1).imp fun _ _ => trivial)
    clear hb1 BW FW
    cases q with
    | false =>
      go_wp2
      go_ret
      exact ⟨_, rfl, F1.out, B1.out⟩
    | true =>
      go_wp2
      go_ret
      exact ⟨_, rfl, F1.out, B1.out⟩
  · have h1 : (s.size : Int) < at_ := hout.resolve_left h0
    clear hout
    go_enter Try.func29, Try.ntmps29
    go_wp2_with fail
    rw [← HW0.out, ← HGF.out]
    obtain ⟨c0, c1, c2, c3, c4, c5, -⟩ := cellsR XW.out
    go_wp2_with fail
    refine KM.out.mono ?_
    rintro e w1 ⟨rfl, hb1⟩
    have B1 := Lib.hid (BW.out.trans (hb1.mono BW.out.size))
    have F1 := Lib.hid (show BoolsAt (fun _ => True) _ _ (List.replicate nF false) from (FW.out.below hb1).imp fun _ _ => trivial)
    clear hb1 BW FW
    cases q with
    | false =>
      go_wp2
      go_ret
      exact ⟨_, rfl, F1.out, B1.out⟩
    | true =>
      go_wp2
      go_ret
      exact ⟨_, rfl, F1.out, B1.out⟩

def idxL (bl : List Bool) (k : Nat) : List Nat := (List.range k).filter fun j => bl.getD j false
theorem idxL_yes {bl : List Bool} {k : Nat} (h : bl.getD k false = true) : idxL bl (k + 1) = idxL bl k ++ [k] := by
  unfold idxL
  rw [List.range_succ, List.filter_append]
  simp only [List.filter_cons, h, List.filter_nil, if_true]
theorem idxL_no {bl : List Bool} {k : Nat} (h : bl.getD k false = false) : idxL bl (k + 1) = idxL bl k := by
  unfold idxL
  rw [List.range_succ, List.filter_append]
  simp only [List.filter_cons, h, List.filter_nil, Bool.false_eq_true, if_false, List.append_nil]
theorem idxL_len (bl : List Bool) (k : Nat) : (idxL bl k).length ≤ k := by
  unfold idxL
  have := List.length_filter_le (fun j => bl.getD j false) (List.range k)
  simpa using this
theorem mem_idxL {bl : List Bool} {k j : Nat} : j ∈ idxL bl k ↔ j < k ∧ bl.getD j false = true := by
  unfold idxL
  rw [List.mem_filter, List.mem_range]
noncomputable def endsA (r : Rx) (s : ByteArray) (at_ : Int) : List Bool := if at_ < 0 ∨ (s.size : Int) < at_ then List.replicate (s.size + 1) false else endsB r s at_.toNat
theorem endsA_len (r : Rx) (s : ByteArray) (at_ : Int) : (endsA r s at_).length = s.size + 1 := by
  unfold endsA
  split
  · simp
  · unfold endsB
    cases exX r with
    | none => simp
    | some e => simp only; rw [endsL_len, Array.length_toList]; rfl
theorem rep_get (n j : Nat) : (List.replicate n false).getD j false = false := by
  rw [List.getD_eq_getElem?_getD, List.getElem?_replicate]
  split <;> rfl
theorem idx_ends (r : Rx) (s : ByteArray) (at_ : Int) : idxL (endsA r s at_) (s.size + 1) = endsI r s at_ := by
  by_cases hout : at_ < 0 ∨ (s.size : Int) < at_
  · rw [endsI_out (by omega)]
    unfold endsA idxL
    rw [if_pos hout, List.filter_eq_nil_iff]
    intro j _
    rw [rep_get]
    decide
  · obtain ⟨n, rfl⟩ : ∃ n : Nat, at_ = (n : Int) := ⟨at_.toNat, by omega⟩
    have hn : n ≤ s.size := by omega
    unfold endsA
    rw [if_neg hout, show ((n : Int)).toNat = n from rfl]
    unfold endsB endsI
    cases exX r with
    | none =>
      simp only
      unfold idxL
      rw [List.filter_eq_nil_iff]
      intro j _
      rw [rep_get]
      decide
    | some e =>
      simp only
      rw [if_pos ⟨by omega, by omega⟩, show ((n : Int)).toNat = n from rfl]
      refine rise_ext ((range_lt _).filter _) (endsN_lt _ _ _) fun x => ?_
      have hF : (fun i => ((List.replicate (s.size + 1) false).set n true).getD i false = true) = fun i => i = n := by
        funext i
        apply propext
        rw [List.getD_eq_getElem?_getD, List.getElem?_set]
        by_cases hi : n = i
        · subst hi
          have hlt : n < s.size + 1 := by omega
          simp [hlt]
        · rw [if_neg hi, List.getElem?_replicate]
          split <;> simp <;> omega
      rw [mem_idxL, endsL_at, hF, mem_endsN]
      exact ⟨fun h => h.2, fun h => ⟨by have := h.1; rw [Array.length_toList] at this; exact Nat.lt_succ_of_le this, h⟩⟩
theorem refEndsA (H : EndsC) {ok : Nat → Prop} (r : Rx) (s : ByteArray) (at_ : Int) (v : Value) (w : World) (hbig : r.size ≤ 1000000) (hz : s.size ≤ 100000) (h : ReAt ok w v r) :
    Calls Try.prog 29 #[v, .string s, .int .i64 at_] w (AnyBl (endsA r s at_) w) := by
  unfold endsA
  by_cases hout : at_ < 0 ∨ (s.size : Int) < at_
  · rw [if_pos hout]
    exact refEndsOut r s v w at_ hout hbig hz h
  · rw [if_neg hout]
    obtain ⟨n, rfl⟩ : ∃ n : Nat, at_ = (n : Int) := ⟨at_.toNat, by omega⟩
    exact refEndsIn H r s v w n (by omega) hbig hz h
open Go.RowKit
def idxI (bl : List Bool) (m : Nat) (w : World) (y8 y17 : Value) (W : World) : Prop := ∃ j : Nat, j ≤ m ∧ y17 = .int .i64 j ∧ OwnI W y8 (idxL bl j) ∧ (∀ q, y8.ownBlock = some q → w.heap.size ≤ q) ∧ Below w.heap.size w W
set_option maxRecDepth 100000 in
set_option maxHeartbeats 4000000 in
theorem ref10Ends {ok : Nat → Prop} (r : Rx) (s : ByteArray) (at_ : Int) (v : Value) (w : World) (hbig : r.size ≤ 1000000) (hz : s.size ≤ 60) (h : ReAt ok w v r) :
    Calls Try.prog 13 #[v, .string s, .int .i64 at_] w (RisePost (endsI r s at_) w) := by
  rw [← idx_ends]
  have hlen := endsA_len r s at_
  obtain ⟨x0, x1, x2, x3, x4, xl, xn, xc, rfl⟩ := cells_re h
  have hb0 := bel_al w (.cells #[.int .u8 x0, .int .u64 x1, .int .u64 x2, .int .u64 x3, .int .u64 x4, .slice xl xn xc] 27)
  have KE := Lib.hid (refEndsA endsC r s at_ _ _ hbig (by omega) (h.below hb0))
  have B0 := Lib.hid hb0
  obtain ⟨bl, hbl⟩ : ∃ bl, bl = endsA r s at_ := ⟨_, rfl⟩
  rw [← hbl] at KE hlen ⊢
  obtain ⟨m, hm⟩ : ∃ m, m = s.size + 1 := ⟨_, rfl⟩
  rw [← hm] at hlen ⊢
  have HLEN := Lib.hid hlen
  have hm61 : m ≤ 61 := by omega
  clear h hb0 hbl hlen hm
  go_enter Try.func13, Try.ntmps13
  go_wp2_with fail
  refine KE.out.mono ?_
  rintro e w1 ⟨v1, rfl, ⟨g, cap, cur, rfl, _, hg, hmx, ht⟩, hb1⟩
  have hcell := Lib.hid fun (j : Nat) (hj : j < bl.length) => bool_cell hg ht j hj
  have hgl : g < w1.heap.size := (Array.getElem?_eq_some_iff.1 hg).1
  have B1 := Lib.hid (B0.out.trans (hb1.mono B0.out.size))
  have hst : idxI bl m w1 (.slice (some ⟨w1.heap.size, 0, none⟩) 0 0) (.int .i64 0) (w1.alloc (.cells #[] 3)) := ⟨0, Nat.zero_le _, rfl, OwnI.of (l := []) (blk_new w1 _) (Nat.le_refl _) (Nat.zero_le _) rfl rfl, fun q hq => Nat.le_of_eq (by simpa [Value.ownBlock] using hq), bel_al _ _⟩
  have HST := Lib.hid hst
  rw [HLEN.out]
  clear hg ht hb1 hst KE B0 hmx
  go_wp2_with fail
  go_loopw [8, 17] (fun y8 y17 wr => idxI bl m w1 y8 y17 wr) (fun _ y17 _ => m - (intOf y17).toNat)
  case atStart => exact HST.out
  case round =>
    clear HST
    obtain ⟨j, hj, rfl, ho, hq, hb⟩ := hrel
    generalize u8 = y8 at *
    have HO := Lib.hid ho
    have HQ := Lib.hid hq
    have HB := Lib.hid hb
    by_cases hlt : j < m
    · have q1 : (j : Int) < (m : Int) := by omega
      have hjl : j < bl.length := by have := HLEN.out; omega
      have c1 : wr.cell? ⟨g, j, none⟩ = some (.bool (bl.getD j false)) := by
        rw [hb.cell (p := ⟨g, j, none⟩) hgl, hcell.out j hjl, List.getD_eq_getElem?_getD, List.getElem?_eq_getElem hjl]; rfl
      obtain ⟨q, hq2⟩ : ∃ q, q = bl.getD j false := ⟨_, rfl⟩
      rw [← hq2] at c1
      have HQ2 := Lib.hid hq2
      clear hq2 ho hq hb
      cases q with
      | false =>
        have hend : idxI bl m w1 y8 (.int .i64 ((j : Int) + 1)) wr := ⟨j + 1, hlt, by simp, by rw [idxL_no HQ2.out.symm]; exact HO.out, HQ.out, HB.out⟩
        have HEND := Lib.hid hend
        clear hend
        go_wp2
        exact ⟨HEND.out, by simp [intOf]; omega⟩
      | true =>
        have hOx := HO.out.below (bel_al wr (.cells #[.int .i64 (j : Nat)] 3))
        have hUx : OwnI (wr.alloc (.cells #[.int .i64 (j : Nat)] 3)) (.slice (some ⟨wr.heap.size, 0, none⟩) 1 1) [j] := OwnI.of (l := [j]) (blk_new wr _) (Nat.le_refl _) (by decide) rfl rfl
        have hlen : (idxL bl j).length + [j].length ≤ 1000 := by have := idxL_len bl j; simp; omega
        have HO1 := Lib.hid hOx
        have HU1 := Lib.hid hUx
        have HLE := Lib.hid hlen
        clear hOx hUx hlen
        go_wp2_with (at_builtin; refine wpList_app_ints rfl _ _ rfl _ _ (idxL bl j) [j] rfl rfl HO1.out HU1.out HLE.out ?_)
        intro v2 w2 g1 g2 g3
        have hs1 := HB.out.size
        have hend : idxI bl m w1 v2 (.int .i64 ((j : Int) + 1)) w2 := by
          refine ⟨j + 1, hlt, by simp, by rw [idxL_yes HQ2.out.symm]; exact g1, fun q hq => ?_, (HB.out.trans (bel_al wr _ |>.mono hs1)).trans ⟨g3.os, g3.tape, g3.output, g3.size, fun q hq => g3.block q (by simp; omega) fun e => by have := HQ.out q e.symm; omega⟩⟩
          rcases g2 with e | e
          · rw [e] at hq; exact HQ.out q hq
          · rw [e] at hq
            have hq : wr.heap.size + 1 = q := by simpa using hq
            omega
        have HEND := Lib.hid hend
        clear g1 g2 g3 hend
        go_wp2
        exact ⟨HEND.out, by simp [intOf]; omega⟩
    · have q1 : ¬ (j : Int) < (m : Int) := by omega
      have hjm : j = m := by omega
      rw [hjm] at ho
      have hend : RisePost (idxL bl m) w (.returned y8) wr := ⟨_, rfl, ho, B1.out.trans (hb.mono B1.out.size)⟩
      have HEND := Lib.hid hend
      clear hend ho hq hb
      go_wp2
      go_ret
      exact HEND.out
noncomputable def lngI (r : Rx) (s : ByteArray) (at_ : Int) : Int × Bool := match (endsI r s at_).getLast? with
  | none => (0, false)
  | some x => ((x : Int) - at_, decide (0 < (x : Int) - at_))
theorem endsI_ge {r : Rx} {s : ByteArray} {at_ : Int} {j : Nat} (h : j ∈ endsI r s at_) : ∃ n : Nat, at_ = (n : Int) ∧ n ≤ j := by
  unfold endsI at h
  split at h
  · cases h
  · split at h
    · rename_i hin
      have h2 := ends_at_ge (mem_endsN.1 h)
      exact ⟨at_.toNat, by omega, h2⟩
    · cases h
theorem cell_get {w : World} {f cap n : Nat} {l : List Nat} (h : OwnI w (.slice (some ⟨f, 0, none⟩) n cap) l) {j x : Nat} (hx : l[j]? = some x) : w.cell? ⟨f, j, none⟩ = some (.int .i64 (x : Nat)) := by
  obtain ⟨hj, e⟩ := List.getElem?_eq_some_iff.1 hx
  rw [h.cell j hj, e]
def LngPost (d : Int) (b : Bool) (w : World) (e : Ending) (w' : World) : Prop := e = .returned (.tuple #[.int .i64 d, .bool b]) ∧ Below w.heap.size w w'
set_option maxRecDepth 100000 in
set_option maxHeartbeats 4000000 in
theorem mLongest_any {ok : Nat → Prop} (r : Rx) (s : ByteArray) (hs : s.size ≤ 60) (at_ : Int) (v : Value) (w : World) (h : ReAt ok w v r) :
    Calls Try.prog 9 #[v, .string s, .int .i64 at_] w (LngPost (lngI r s at_).1 (lngI r s at_).2 w) := by
  obtain ⟨x0, x1, x2, x3, x4, xl, xn, xc, rfl⟩ := cells_re h
  have hb0 := bel_al w (.cells #[.int .u8 x0, .int .u64 x1, .int .u64 x2, .int .u64 x3, .int .u64 x4, .slice xl xn xc] 27)
  have KE := Lib.hid (mEnds_any r s hs at_ _ _ (h.below hb0))
  have B0 := Lib.hid hb0
  have hge := @endsI_ge r s at_
  have hle := @endsI_le r s at_
  have hlen61 := endsI_len r s at_
  unfold lngI
  obtain ⟨L, hL⟩ : ∃ L, L = endsI r s at_ := ⟨_, rfl⟩
  rw [← hL] at KE hge hle hlen61 ⊢
  clear h hb0 hL
  cases hl : L.getLast? with
  | none =>
    have hLn : L = [] := List.getLast?_eq_none_iff.1 hl
    subst hLn
    simp only
    clear hl hge hle
    go_enter Try.func9, Try.ntmps9
    go_wp2_with fail
    refine KE.out.mono ?_
    rintro e w1 ⟨v1, rfl, ho, hb⟩
    obtain ⟨p, c, rfl⟩ := own_len ho
    have B1 := Lib.hid (B0.out.trans (hb.mono B0.out.size))
    clear ho hb
    go_wp2
    go_ret2
    exact ⟨rfl, B1.out⟩
  | some x =>
    have hne : L ≠ [] := fun e => by rw [e] at hl; cases hl
    have hx : x ∈ L := List.mem_of_getLast? hl
    obtain ⟨n, rfl, hnx⟩ := hge hx
    have hx60 := hle hx
    obtain ⟨d, rfl⟩ : ∃ d, x = n + d := ⟨x - n, by omega⟩
    have hlpos : 0 < L.length := List.length_pos_iff.2 hne
    obtain ⟨k, hk⟩ : ∃ k, L.length = k + 1 := ⟨L.length - 1, by omega⟩
    have hget : L[k]? = some (n + d) := by
      rw [List.getLast?_eq_getElem?] at hl
      rw [show L.length - 1 = k from by omega] at hl
      exact hl
    simp only
    rw [show ((n + d : Nat) : Int) - (n : Int) = (d : Int) from by omega]
    have HGT := Lib.hid hget
    have HK := Lib.hid hk
    have hk60 : k ≤ 60 := by have := hlen61; omega
    clear hl hge hle hne hx hget hk hlen61
    by_cases hd : d = 0
    · subst hd
      rw [show (decide ((0 : Int) < ((0 : Nat) : Int))) = false from rfl]
      go_enter Try.func9, Try.ntmps9
      go_wp2_with fail
      refine KE.out.mono ?_
      rintro e w1 ⟨v1, rfl, ho, hb⟩
      obtain ⟨f, cap, cur, rfl, -⟩ := (ho.form).resolve_left (fun h => by rw [h.2] at hlpos; exact absurd hlpos (Nat.lt_irrefl _))
      have c0 := cell_get ho HGT.out
      rw [Nat.add_zero] at c0
      have B1 := Lib.hid (B0.out.trans (hb.mono B0.out.size))
      rw [HK.out]
      have hk1 : ((k + 1 : Nat) : Int) - 1 = (k : Int) := by omega
      clear ho hb
      obtain ⟨nk, hnk⟩ : ∃ nk, nk = k + 1 := ⟨_, rfl⟩
      rw [← hnk] at hk1 ⊢
      have q1 : ((nk : Int) == 0) = false := by simp; omega
      have q2 : (k : Int) < (nk : Int) := by omega
      clear hnk
      go_wp2
      go_ret2
      exact ⟨rfl, B1.out⟩
    · have hdp : (0 : Int) < (d : Int) := by omega
      rw [decide_eq_true hdp]
      go_enter Try.func9, Try.ntmps9
      go_wp2_with fail
      refine KE.out.mono ?_
      rintro e w1 ⟨v1, rfl, ho, hb⟩
      obtain ⟨f, cap, cur, rfl, -⟩ := (ho.form).resolve_left (fun h => by rw [h.2] at hlpos; exact absurd hlpos (Nat.lt_irrefl _))
      have c0 := cell_get ho HGT.out
      have B1 := Lib.hid (B0.out.trans (hb.mono B0.out.size))
      rw [HK.out]
      have hk1 : ((k + 1 : Nat) : Int) - 1 = (k : Int) := by omega
      clear ho hb
      obtain ⟨nk, hnk⟩ : ∃ nk, nk = k + 1 := ⟨_, rfl⟩
      rw [← hnk] at hk1 ⊢
      have q1 : ((nk : Int) == 0) = false := by simp; omega
      have q2 : (k : Int) < (nk : Int) := by omega
      obtain ⟨x, hxe⟩ : ∃ x, x = n + d := ⟨_, rfl⟩
      rw [← hxe] at c0
      have q3 : ((x : Int) == (n : Int)) = false := by simp; omega
      have q4 : (x : Int) - (n : Int) = (d : Int) := by omega
      have hd60 : d ≤ 60 := by omega
      have hn60 : n ≤ 60 := by omega
      clear hnk hxe
      go_wp2
      go_ret2
      exact ⟨rfl, B1.out⟩
set_option maxRecDepth 100000 in
set_option maxHeartbeats 4000000 in
theorem refLongest_any {ok : Nat → Prop} (r : Rx) (s : ByteArray) (hs : s.size ≤ 60) (at_ : Int) (v : Value) (w : World) (hbig : r.size ≤ 1000000) (h : ReAt ok w v r) :
    Calls Try.prog 10 #[v, .string s, .int .i64 at_] w (LngPost (lngI r s at_).1 (lngI r s at_).2 w) := by
  obtain ⟨x0, x1, x2, x3, x4, xl, xn, xc, rfl⟩ := cells_re h
  have hb0 := bel_al w (.cells #[.int .u8 x0, .int .u64 x1, .int .u64 x2, .int .u64 x3, .int .u64 x4, .slice xl xn xc] 27)
  have KE := Lib.hid (ref10Ends r s at_ _ _ hbig hs (h.below hb0))
  have B0 := Lib.hid hb0
  have hge := @endsI_ge r s at_
  have hle := @endsI_le r s at_
  have hlen61 := endsI_len r s at_
  unfold lngI
  obtain ⟨L, hL⟩ : ∃ L, L = endsI r s at_ := ⟨_, rfl⟩
  rw [← hL] at KE hge hle hlen61 ⊢
  clear h hb0 hL
  cases hl : L.getLast? with
  | none =>
    have hLn : L = [] := List.getLast?_eq_none_iff.1 hl
    subst hLn
    simp only
    clear hl hge hle
    go_enter Try.func10, Try.ntmps10
    go_wp2_with fail
    refine KE.out.mono ?_
    rintro e w1 ⟨v1, rfl, ho, hb⟩
    obtain ⟨p, c, rfl⟩ := own_len ho
    have B1 := Lib.hid (B0.out.trans (hb.mono B0.out.size))
    clear ho hb
    go_wp2
    go_ret2
    exact ⟨rfl, B1.out⟩
  | some x =>
    have hne : L ≠ [] := fun e => by rw [e] at hl; cases hl
    have hx : x ∈ L := List.mem_of_getLast? hl
    obtain ⟨n, rfl, hnx⟩ := hge hx
    have hx60 := hle hx
    obtain ⟨d, rfl⟩ : ∃ d, x = n + d := ⟨x - n, by omega⟩
    have hlpos : 0 < L.length := List.length_pos_iff.2 hne
    obtain ⟨k, hk⟩ : ∃ k, L.length = k + 1 := ⟨L.length - 1, by omega⟩
    have hget : L[k]? = some (n + d) := by
      rw [List.getLast?_eq_getElem?] at hl
      rw [show L.length - 1 = k from by omega] at hl
      exact hl
    simp only
    rw [show ((n + d : Nat) : Int) - (n : Int) = (d : Int) from by omega]
    have HGT := Lib.hid hget
    have HK := Lib.hid hk
    have hk60 : k ≤ 60 := by omega
    obtain ⟨q, hq⟩ : ∃ q, q = decide ((0 : Int) < (d : Int)) := ⟨_, rfl⟩
    rw [← hq]
    have HQ := Lib.hid (show q = decide (0 < d) from by rw [hq]; exact decide_eq_decide.2 (by omega))
    clear hl hge hle hne hx hget hk hq hlen61
    go_enter Try.func10, Try.ntmps10
    go_wp2_with fail
    refine KE.out.mono ?_
    rintro e w1 ⟨v1, rfl, ho, hb⟩
    obtain ⟨f, cap, cur, rfl, -⟩ := (ho.form).resolve_left (fun h => by rw [h.2] at hlpos; exact absurd hlpos (Nat.lt_irrefl _))
    have c0 := cell_get ho HGT.out
    have B1 := Lib.hid (B0.out.trans (hb.mono B0.out.size))
    rw [HK.out]
    have hk1 : ((k + 1 : Nat) : Int) - 1 = (k : Int) := by omega
    clear ho hb
    obtain ⟨nk, hnk⟩ : ∃ nk, nk = k + 1 := ⟨_, rfl⟩
    rw [← hnk] at hk1 ⊢
    have q1 : ((nk : Int) == 0) = false := by simp; omega
    have q2 : (k : Int) < (nk : Int) := by omega
    obtain ⟨x, hxe⟩ : ∃ x, x = n + d := ⟨_, rfl⟩
    rw [← hxe] at c0
    have q4 : (x : Int) - (n : Int) = (d : Int) := by omega
    have hd60 : d ≤ 60 := by omega
    have hn60 : n ≤ 60 := by omega
    clear hnk hxe
    go_wp2
    go_ret2
    exact ⟨by rw [HQ.out]; rfl, B1.out⟩
open Go.RowKit
set_option maxHeartbeats 8000000 in
set_option maxRecDepth 100000 in
theorem matchEnds_walk (hRead : ReadC) {ok : Nat → Prop} (r : Rx) (v : Value) (s : ByteArray) (at_ : Int) (w : World) (h : ReAt ok w v r) (hsz : r.size ≤ 1048576) :
    Calls Try.prog 3 #[v, .string s, .int .i64 at_] w fun e w' => e = .returned (.bool true) ∧ Below w.heap.size w w' := by
  obtain ⟨x0, x1, x2, x3, x4, xl, xn, xc, rfl⟩ := cells_re h
  have HR := Lib.hid h
  have HM := Lib.hid (fun h => great10 (r := r) (n := 60) h hsz)
  have G1 := Lib.hid fun W (hb : Below w.heap.size w W) => great_any r 60 _ W (h.below hb) (by decide)
  have KA := Lib.hid fun W (_ : Below w.heap.size w W) => awake10_any hRead W
  have BX := Lib.hid (Bx10.new w (.cells #[.int .u8 x0, .int .u64 x1, .int .u64 x2, .int .u64 x3, .int .u64 x4, .slice xl xn xc] 27))
  clear hRead h hsz
  by_cases hs : s.size ≤ 20
  · have q1 : ¬ (20 : Int) < (s.size : Int) := by omega
    have KL1 := Lib.hid fun W (hb : Below w.heap.size w W) => mLongest_any r s (by omega) at_ _ W (HR.out.below hb)
    have KL2 := Lib.hid fun (hr : r.size ≤ 1000000) W (hb : Below w.heap.size w W) => refLongest_any r s (by omega) at_ _ W hr (HR.out.below hb)
    have KE10 := Lib.hid fun W (hb : Below w.heap.size w W) => mEnds_any r s (by omega) at_ _ W (HR.out.below hb)
    have KE20 := Lib.hid fun (hr : r.size ≤ 1000000) W (hb : Below w.heap.size w W) => ref10Ends r s at_ _ W hr (by omega) (HR.out.below hb)
    have hlenL := endsI_len r s at_
    obtain ⟨⟨d, b⟩, hdb⟩ : ∃ z, z = lngI r s at_ := ⟨_, rfl⟩
    rw [← hdb] at KL1 KL2
    simp only at KL1 KL2
    obtain ⟨L, hL⟩ : ∃ L, L = endsI r s at_ := ⟨_, rfl⟩
    rw [← hL] at KE10 KE20 hlenL
    have HLL := Lib.hid (show L.length ≤ 21 from by omega)
    have KI := Lib.hid fun (x : World) (y z : Value) (hy : OwnI x y L) (hz : OwnI x z L) => show Calls _ _ _ x _ from ints_any L L y z x (by have := HLL.out; omega) (by have := HLL.out; omega) hy hz
    rw [show decide (L = L) = true from by simp] at KI
    clear hdb hL hlenL
    go_enter Try.func3, Try.ntmps3
    go_wp2_with fail
    refine (G1.out _ BX.out.2).mono ?_
    rintro e w' ⟨⟨p, rfl, hp⟩, hb⟩
    have HP := Lib.hid hp
    replace BX := Lib.hid (BX.out.go hb)
    clear hb hp
    cases p with
    | true =>
      clear HM HP
      go_wp2_with fail
      refine (KA.out _ BX.out.2).mono ?_
      rintro e w' ⟨rfl, hb⟩
      have HE := Lib.hid (BX.out.2.trans (hb.mono BX.out.2.size))
      clear hb
      go_wp2
      go_ret
      exact ⟨rfl, HE.out⟩
    | false =>
      have hr60 := HM.out (fun h => HP.out h)
      have hrb : r.size ≤ 1000000 := by omega
      clear HM HP G1 hr60
      obtain ⟨c0, c1, c2, c3, c4, c5, -⟩ := cellsR BX.out.1
      go_wp2_with fail
      clear c0 c1 c2 c3 c4 c5
      refine (KL1.out _ BX.out.2).mono ?_
      rintro e W1 ⟨rfl, hb⟩
      replace BX := Lib.hid (BX.out.go hb)
      clear hb KL1
      obtain ⟨c0, c1, c2, c3, c4, c5, -⟩ := cellsR BX.out.1
      go_wp2_with fail
      clear c0 c1 c2 c3 c4 c5
      refine (KL2.out hrb _ BX.out.2).mono ?_
      rintro e W2 ⟨rfl, hb⟩
      replace BX := Lib.hid (BX.out.go hb)
      clear hb KL2
      have CX := Lib.hid fun x (hx : Below W2.heap.size W2 x) => cellsR (BX.out.go hx).1
      have KE1 := Lib.hid fun x (hx : Below W2.heap.size W2 x) => KE10.out x (BX.out.go hx).2
      have KE2 := Lib.hid fun x (hx : Below W2.heap.size W2 x) => KE20.out hrb x (BX.out.go hx).2
      clear HR KE10 KE20
      go_wp2_with fail
      refine wp_region_order (fun j => ([SP.eq (.agg #[.int .u8 x0, .int .u64 x1, .int .u64 x2, .int .u64 x3, .int .u64 x4, .slice xl xn xc]), SP.eq (.string s), SP.eq (.int .i64 at_), SP.ownI L, SP.eq (.agg #[.int .u8 x0, .int .u64 x1, .int .u64 x2, .int .u64 x3, .int .u64 x4, .slice xl xn xc]), SP.eq (.string s), SP.eq (.int .i64 at_), SP.ownI L, SP.eq (.bool true), SP.eq (.bool true), SP.eq (.int .i64 d), SP.eq (.int .i64 d), SP.eq (.bool true), SP.eq (.bool true), SP.eq (.bool true), SP.eq (.bool b), SP.eq (.bool b), SP.eq (.bool true), SP.eq (.bool true), SP.eq (.bool true), SP.eq (.bool true), SP.eq (.bool true), SP.eq (.bool true)] : List SP).getD j SP.free) (by kernel_rfl) (by kernel_rfl) ⟨?_, ?_, ?_, ?_, ?_, ?_, ?_, ?_, ?_, ?_, ?_, ?_, ?_, ?_, ?_, ?_, ?_, ?_, ?_, ?_, ?_, ?_, ?_, trivial⟩ ?_
      · intro a x K out get hb hK
        rw [if_pos (wanted_none rfl)]
        have o3 : a.tmps[3]? = some (.pointer (some ⟨w.heap.size, 0, none⟩)) := out 3 (by kernel_rfl)
        clear out get
        obtain ⟨c0, c1, c2, c3, c4, c5, -⟩ := CX.out x hb
        go_simp
        exact hK _ _ rfl (Below.refl _ _)
      · intro a x K out get hb hK
        rw [if_pos (wanted_none rfl)]
        have o1 : a.tmps[1]? = some (.string s) := out 1 (by kernel_rfl)
        clear out get
        go_simp
        exact hK _ _ rfl (Below.refl _ _)
      · intro a x K out get hb hK
        rw [if_pos (wanted_none rfl)]
        have o2 : a.tmps[2]? = some (.int .i64 at_) := out 2 (by kernel_rfl)
        clear out get
        go_simp
        exact hK _ _ rfl (Below.refl _ _)
      · intro a x K out get hb hK
        rw [if_pos (wanted_none rfl)]
        obtain ⟨y33, hy33, rfl⟩ := get 0 _ _ rfl rfl (by kernel_rfl)
        obtain ⟨y34, hy34, rfl⟩ := get 1 _ _ rfl rfl (by kernel_rfl)
        obtain ⟨y35, hy35, rfl⟩ := get 2 _ _ rfl rfl (by kernel_rfl)
        clear out get
        go_simp
        refine (KE1.out x hb).mono ?_
        rintro e w2 ⟨v2, rfl, hv2, hb2⟩
        exact hK _ _ hv2 hb2
      · intro a x K out get hb hK
        rw [if_pos (wanted_none rfl)]
        have o3 : a.tmps[3]? = some (.pointer (some ⟨w.heap.size, 0, none⟩)) := out 3 (by kernel_rfl)
        clear out get
        obtain ⟨c0, c1, c2, c3, c4, c5, -⟩ := CX.out x hb
        go_simp
        exact hK _ _ rfl (Below.refl _ _)
      · intro a x K out get hb hK
        rw [if_pos (wanted_none rfl)]
        have o1 : a.tmps[1]? = some (.string s) := out 1 (by kernel_rfl)
        clear out get
        go_simp
        exact hK _ _ rfl (Below.refl _ _)
      · intro a x K out get hb hK
        rw [if_pos (wanted_none rfl)]
        have o2 : a.tmps[2]? = some (.int .i64 at_) := out 2 (by kernel_rfl)
        clear out get
        go_simp
        exact hK _ _ rfl (Below.refl _ _)
      · intro a x K out get hb hK
        rw [if_pos (wanted_none rfl)]
        obtain ⟨y37, hy37, rfl⟩ := get 4 _ _ rfl rfl (by kernel_rfl)
        obtain ⟨y38, hy38, rfl⟩ := get 5 _ _ rfl rfl (by kernel_rfl)
        obtain ⟨y39, hy39, rfl⟩ := get 6 _ _ rfl rfl (by kernel_rfl)
        clear out get
        go_simp
        refine (KE2.out x hb).mono ?_
        rintro e w2 ⟨v2, rfl, hv2, hb2⟩
        exact hK _ _ hv2 hb2
      · intro a x K out get hb hK
        rw [if_pos (wanted_none rfl)]
        obtain ⟨y36, hy36, hp36⟩ := get 3 _ _ rfl rfl (by kernel_rfl)
        obtain ⟨y40, hy40, hp40⟩ := get 7 _ _ rfl rfl (by kernel_rfl)
        clear out get
        go_simp
        refine (KI.out x _ _ hp36 hp40).mono ?_
        rintro e w2 ⟨rfl, hb2⟩
        exact hK _ _ rfl hb2
      · intro a x K out get hb hK
        rw [if_pos (wanted_none rfl)]
        obtain ⟨y41, hy41, rfl⟩ := get 8 _ _ rfl rfl (by kernel_rfl)
        clear out get
        go_simp
        exact hK _ _ rfl (Below.refl _ _)
      · intro a x K out get hb hK
        obtain ⟨yg, hyg, rfl⟩ := get 9 _ _ rfl rfl (by kernel_rfl)
        rw [if_pos (by rw [wanted_bool rfl rfl rfl hyg]; rfl)]
        clear hyg
        have o7 : a.tmps[7]? = some (.int .i64 d) := out 7 (by kernel_rfl)
        clear out get
        go_simp
        exact hK _ _ rfl (Below.refl _ _)
      · intro a x K out get hb hK
        obtain ⟨yg, hyg, rfl⟩ := get 9 _ _ rfl rfl (by kernel_rfl)
        rw [if_pos (by rw [wanted_bool rfl rfl rfl hyg]; rfl)]
        clear hyg
        have o9 : a.tmps[9]? = some (.int .i64 d) := out 9 (by kernel_rfl)
        clear out get
        go_simp
        exact hK _ _ rfl (Below.refl _ _)
      · intro a x K out get hb hK
        obtain ⟨yg, hyg, rfl⟩ := get 9 _ _ rfl rfl (by kernel_rfl)
        rw [if_pos (by rw [wanted_bool rfl rfl rfl hyg]; rfl)]
        clear hyg
        obtain ⟨y43, hy43, rfl⟩ := get 10 _ _ rfl rfl (by kernel_rfl)
        obtain ⟨y44, hy44, rfl⟩ := get 11 _ _ rfl rfl (by kernel_rfl)
        clear out get
        go_simp
        exact hK _ _ rfl (Below.refl _ _)
      · intro a x K out get hb hK
        rw [if_pos (wanted_none rfl)]
        obtain ⟨y42, hy42, rfl⟩ := get 9 _ _ rfl rfl (by kernel_rfl)
        obtain ⟨y45, hy45, rfl⟩ := get 12 _ _ rfl rfl (by kernel_rfl)
        clear out get
        go_simp
        exact hK _ _ rfl (Below.refl _ _)
      · intro a x K out get hb hK
        rw [if_pos (wanted_none rfl)]
        obtain ⟨y46, hy46, rfl⟩ := get 13 _ _ rfl rfl (by kernel_rfl)
        clear out get
        go_simp
        exact hK _ _ rfl (Below.refl _ _)
      · intro a x K out get hb hK
        obtain ⟨yg, hyg, rfl⟩ := get 14 _ _ rfl rfl (by kernel_rfl)
        rw [if_pos (by rw [wanted_bool rfl rfl rfl hyg]; rfl)]
        clear hyg
        have o8 : a.tmps[8]? = some (.bool b) := out 8 (by kernel_rfl)
        clear out get
        go_simp
        exact hK _ _ rfl (Below.refl _ _)
      · intro a x K out get hb hK
        obtain ⟨yg, hyg, rfl⟩ := get 14 _ _ rfl rfl (by kernel_rfl)
        rw [if_pos (by rw [wanted_bool rfl rfl rfl hyg]; rfl)]
        clear hyg
        have o10 : a.tmps[10]? = some (.bool b) := out 10 (by kernel_rfl)
        clear out get
        go_simp
        exact hK _ _ rfl (Below.refl _ _)
      · intro a x K out get hb hK
        obtain ⟨yg, hyg, rfl⟩ := get 14 _ _ rfl rfl (by kernel_rfl)
        rw [if_pos (by rw [wanted_bool rfl rfl rfl hyg]; rfl)]
        clear hyg
        obtain ⟨y48, hy48, rfl⟩ := get 15 _ _ rfl rfl (by kernel_rfl)
        obtain ⟨y49, hy49, rfl⟩ := get 16 _ _ rfl rfl (by kernel_rfl)
        clear out get
        go_simp
        exact hK _ _ rfl (Below.refl _ _)
      · intro a x K out get hb hK
        rw [if_pos (wanted_none rfl)]
        obtain ⟨y47, hy47, rfl⟩ := get 14 _ _ rfl rfl (by kernel_rfl)
        obtain ⟨y50, hy50, rfl⟩ := get 17 _ _ rfl rfl (by kernel_rfl)
        clear out get
        go_simp
        exact hK _ _ rfl (Below.refl _ _)
      · intro a x K out get hb hK
        rw [if_pos (wanted_none rfl)]
        obtain ⟨y51, hy51, rfl⟩ := get 18 _ _ rfl rfl (by kernel_rfl)
        clear out get
        go_simp
        exact hK _ _ rfl (Below.refl _ _)
      · intro a x K out get hb hK
        obtain ⟨yg, hyg, rfl⟩ := get 19 _ _ rfl rfl (by kernel_rfl)
        rw [if_pos (by rw [wanted_bool rfl rfl rfl hyg]; rfl)]
        clear hyg
        clear out get
        go_simp
        refine (KA.out x (BX.out.go hb).2).mono ?_
        rintro e w2 ⟨rfl, hb2⟩
        exact hK _ _ rfl hb2
      · intro a x K out get hb hK
        rw [if_pos (wanted_none rfl)]
        obtain ⟨y52, hy52, rfl⟩ := get 19 _ _ rfl rfl (by kernel_rfl)
        obtain ⟨y53, hy53, rfl⟩ := get 20 _ _ rfl rfl (by kernel_rfl)
        clear out get
        go_simp
        exact hK _ _ rfl (Below.refl _ _)
      · intro a x K out get hb hK
        rw [if_pos (wanted_none rfl)]
        obtain ⟨y54, hy54, rfl⟩ := get 21 _ _ rfl rfl (by kernel_rfl)
        clear out get
        go_simp
        exact hK _ _ rfl (Below.refl _ _)
      refine ao_fin (isD := fun s => (decide (33 ≤ s) && decide (s ≤ 54)) || decide (s = 6)) (by kernel_rfl) ?_
      intro f9 W3 hv hb
      have h6 : f9 6 = .bool true := hv 22 _ _ rfl rfl
      have HE := Lib.hid (BX.out.go hb).2
      clear hv hb
      generalize hF : (Act.mk (List.toArray (frm f9 _ 0 _)) _) = fr
      simp [frm] at hF
      rw [h6] at hF
      subst hF
      generalize f9 33 = u33 at *; generalize f9 34 = u34 at *; generalize f9 35 = u35 at *; generalize f9 36 = u36 at *; generalize f9 37 = u37 at *; generalize f9 38 = u38 at *; generalize f9 39 = u39 at *; generalize f9 40 = u40 at *; generalize f9 41 = u41 at *; generalize f9 42 = u42 at *; generalize f9 43 = u43 at *; generalize f9 44 = u44 at *; generalize f9 45 = u45 at *; generalize f9 46 = u46 at *; generalize f9 47 = u47 at *; generalize f9 48 = u48 at *; generalize f9 49 = u49 at *; generalize f9 50 = u50 at *; generalize f9 51 = u51 at *; generalize f9 52 = u52 at *; generalize f9 53 = u53 at *; generalize f9 54 = u54 at *
      clear h6 f9
      go_wp2
      go_ret
      exact ⟨rfl, HE.out⟩
  · have q1 : (20 : Int) < (s.size : Int) := by omega
    go_enter Try.func3, Try.ntmps3
    go_wp2_with fail
    refine (G1.out _ BX.out.2).mono ?_
    rintro e w' ⟨⟨p, rfl, hp⟩, hb⟩
    replace BX := Lib.hid (BX.out.go hb)
    clear hb hp HM
    cases p with
    | true =>
      go_wp2_with fail
      refine (KA.out _ BX.out.2).mono ?_
      rintro e w' ⟨rfl, hb⟩
      have HE := Lib.hid (BX.out.2.trans (hb.mono BX.out.2.size))
      clear hb
      go_wp2
      go_ret
      exact ⟨rfl, HE.out⟩
    | false =>
      go_wp2_with fail
      refine (KA.out _ BX.out.2).mono ?_
      rintro e w' ⟨rfl, hb⟩
      have HE := Lib.hid (BX.out.2.trans (hb.mono BX.out.2.size))
      clear hb
      go_wp2
      go_ret
      exact ⟨rfl, HE.out⟩
end Go.Proofs.Ytiegejbbjlhpdaa
