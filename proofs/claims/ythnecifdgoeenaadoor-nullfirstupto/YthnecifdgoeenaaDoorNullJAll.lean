/- Lemmas of mine, merged: NullJ, NullFirstW. -/
import Derived.Test.YthnecifdgoeenaaDoorNullHAll
import Derived.Test.YthnecifdgoeenaaDoorReadAAll
import Derived.Test.YthnecifdgoeenaaDoorSetCAll
import Derived.Test.YthnecifdgoeenaaDoorNullPAll
import Derived.Test.YthnecifdgoeenaaDoorRexIAll
import Derived.Test.YthnecifdgoeenaaDoorSetAAll
/- Layer 7's example. -/
namespace Go.Proofs.YthnecifdgoeenaaDoor
open Go.RowKit
def exAB : Ex := .seq (.star (.cls (rngW 97 97))) (.cls (rngW 98 98))
theorem px_ab : PX .alt [97, 42, 98] (.ok exAB []) :=
  PX.altOne (PX.rowMore (ex_atom 97 _ rfl (by decide) (by decide) (by decide)) rfl rfl (PX.rowOne (ex_atom 98 _ rfl (by decide) (by decide) (by decide)) rfl rfl)) (notAt_nil _)
theorem rd_ab : rdOf ⟨#[97, 42, 98]⟩ = .ok exAB := by
  rw [rdOf_px (s := ⟨#[97, 42, 98]⟩) px_ab]
  unfold topR
  rw [if_neg (by decide)]
  simp only [if_true]
  rw [if_pos (by decide)]
theorem ne_of_has {s : Ws} {n : Nat} (h : s.has n = true) : s ≠ Ws.nil := fun e => by rw [e, Ws.has_nil] at h; cases h
theorem wf_ab : exAB.Wf := ⟨⟨ofN_ok _, ne_of_has (n := 97) (by decide +kernel)⟩, ofN_ok _, ne_of_has (n := 98) (by decide +kernel)⟩
theorem fst_ab : exAB.fst = ofN [97, 98] := by decide +kernel
def Awake7C : Prop := ∀ (w : World), Calls Tryd.prog 5 #[] w fun x w' => x = .returned (.bool true) ∧ Below w.heap.size w w'
theorem bytes_two (w : World) (a b : UInt8) {g : Nat} (hg : g = w.heap.size) : BytesAt (w.alloc (.cells #[.int .u8 a.toNat, .int .u8 b.toNat] 5)) (some ⟨g, 0, none⟩) [a, b] := by
  subst hg
  refine ⟨by simp [maxLen], .inr ⟨_, 0, rfl, by simp, fun i h => ?_⟩⟩
  match i, h with
  | 0, _ => simp
  | 1, _ => simp
set_option maxHeartbeats 4000000 in
set_option maxRecDepth 100000 in
theorem awake7_any (hRead : ReadC) : Awake7C := by
  intro w
  have K1 := Lib.hid (hRead ⟨#[97, 42, 98]⟩ w (by decide))
  rw [rd_ab] at K1
  have hfx : fstX exAB.rx = ofN [97, 98] := by unfold fstX; rw [exX_of wf_ab (by decide)]; exact fst_ab
  have hnx : nulX exAB.rx = false := by unfold nulX; rw [exX_of wf_ab (by decide)]; rfl
  have KF := Lib.hid fun (ok : Nat → Prop) v W (h : ReAt ok W v exAB.rx) => firstX_any exAB.rx v W h
  have KN := Lib.hid fun (ok : Nat → Prop) al W (h : RowAt ok W al [exAB.rx]) => nullX_any [exAB.rx] al 1 W (by simp) h
  have e2 : [exAB.rx].all nulX = false := by simp [hnx]
  rw [e2, show [exAB.rx].length = 1 from rfl] at KN
  rw [hfx] at KF
  have KO := Lib.hid fun al W (h : BytesAt W al [97, 98]) => setOf_any al [97, 98] 2 W h
  rw [show [(97 : UInt8), 98].length = 2 from rfl, show natsOf [97, 98] = [97, 98] from rfl] at KO
  have hq := eqW_yes (ofN [97, 98])
  generalize ofN [97, 98] = s at *
  obtain ⟨sa, sb, sc, sd⟩ := s
  unfold Ws.v at KF KO hq
  simp only at KF KO hq
  clear e2 hfx hnx
  go_enter Tryd.func5, Tryd.ntmps5
  go_wp2_with fail
  refine K1.out.mono ?_
  rintro e w1 ⟨hb1, v, rfl, hv⟩
  obtain ⟨x0, x1, x2, x3, x4, xl, xn, xc, rfl⟩ := cells_re hv
  have hal := (Below.refl _ w1).alloc (Nat.le_refl _) (.cells #[.int .u8 x0, .int .u64 x1, .int .u64 x2, .int .u64 x3, .int .u64 x4, .slice xl xn xc] 27)
  have HX := Lib.hid (blk_new w1 (.cells #[.int .u8 x0, .int .u64 x1, .int .u64 x2, .int .u64 x3, .int .u64 x4, .slice xl xn xc] 27))
  have HV := Lib.hid (hv.below hal)
  have HB := Lib.hid (hb1.trans (hal.mono hb1.size))
  clear hal hb1 hv
  go_wp2_with fail
  refine (KF.out _ _ _ HV.out).mono ?_
  rintro e w2 ⟨rfl, hb2⟩
  have HV2 := Lib.hid (HV.out.below hb2)
  have HB2 := Lib.hid (HB.out.trans (hb2.mono HB.out.size))
  have HX2 := Lib.hid ((hb2.block _ (by simp)).trans HX.out)
  clear hb2 HV HB HX
  go_wp2_with fail
  refine (KO.out _ _ (bytes_two w2 97 98 rfl)).mono ?_
  rintro e w3 ⟨rfl, hb3⟩
  have hal := ((Below.refl _ w2).alloc (Nat.le_refl _) (.cells #[.int .u8 97, .int .u8 98] 5)).trans (hb3.mono (by simp))
  have HV3 := Lib.hid (HV2.out.below hal)
  have HB3 := Lib.hid (HB2.out.trans (hal.mono HB2.out.size))
  have HX3 := Lib.hid ((hal.block _ (Array.getElem?_eq_some_iff.1 HX2.out).1).trans HX2.out)
  clear hb3 hal HV2 HB2 HX2
  obtain ⟨c0, c1, c2, c3, c4, c5, -⟩ := cellsR HX3.out
  go_wp2_with fail
  refine (KN.out _ _ _ (row_new HV3.out)).mono ?_
  rintro e w4 ⟨rfl, hb4⟩
  have hal := ((Below.refl _ w3).alloc (Nat.le_refl _) (.cells #[.int .u8 x0, .int .u64 x1, .int .u64 x2, .int .u64 x3, .int .u64 x4, .slice xl xn xc] 27)).trans (hb4.mono (by simp))
  go_wp2
  go_ret
  exact ⟨rfl, HB3.out.trans (hal.mono HB3.out.size)⟩
end Go.Proofs.YthnecifdgoeenaaDoor
/- quilllaw07.NullFirst, walked. Made by wip/r7-first.py. -/
namespace Go.Proofs.YthnecifdgoeenaaDoor
open Go.RowKit
theorem nfgreat_200 {r : Rx} (h : r.size ≤ 1000000000 → false = greatB r 200) (hs : r.size ≤ 1048576) : r.size ≤ 200 := by
  have := (h (by omega)).symm
  simp [greatB] at this
  omega
/-- The blocks of the expression and of its first bytes. -/
def Bf (w W : World) (X : Obj) (g : Nat) (s : Ws) : Prop := W.heap[w.heap.size]? = some X ∧ Box W g s ∧ Below w.heap.size w W
theorem Bf.go {w W W' : World} {X : Obj} {g : Nat} {s : Ws} (h : Bf w W X g s) (hb : Below W.heap.size W W') : Bf w W' X g s :=
  ⟨(hb.block _ (Array.getElem?_eq_some_iff.1 h.1).1).trans h.1, h.2.1.below hb h.2.1.lt, h.2.2.trans (hb.mono h.2.2.size)⟩
theorem eqNil (s : Ws) (w : World) : (Op.equalIn 10000 24 s.v Ws.nil.v).run Tryd.prog w = .ok (bareW s) w := by
  by_cases h : s = Ws.nil
  · subst h; exact eqW_yes _ w
  · rw [eqW_no h, show bareW s = false from by simp [bareW, h]]
/-- The first one of the shortest texts is empty, or begins with one of the first bytes. -/
theorem shr_of (r : Rx) : shrX r = none ∨ shrX r = some [] ∨ ∃ c t, shrX r = some (c :: t) ∧ (fstX r).has c.toNat = true := by
  unfold shrX fstX
  cases he : exX r with
  | none => exact .inl rfl
  | some e =>
    have hw : e.Wf := by
      unfold exX at he
      split at he
      · rename_i h
        cases he
        exact (Classical.choose_spec h).2.1
      · cases he
    show e.shr = none ∨ e.shr = some [] ∨ ∃ c t, e.shr = some (c :: t) ∧ e.fst.has c.toNat = true
    cases hs : e.shr with
    | none => exact .inl rfl
    | some x => cases x with
      | nil => exact .inr (.inl rfl)
      | cons c t => exact .inr (.inr ⟨c, t, rfl, shr_first e hw c t hs⟩)
theorem fstX_ok (r : Rx) : (fstX r).Ok := by
  unfold fstX
  cases he : exX r with
  | none => exact Ws.nil_ok
  | some e =>
    have hw : e.Wf := by
      unfold exX at he
      split at he
      · rename_i h
        cases he
        exact (Classical.choose_spec h).2.1
      · cases he
    exact fst_ok e hw
set_option maxHeartbeats 8000000 in
set_option maxRecDepth 100000 in
theorem nullFirst_walk (hRead : ReadC) {ok : Nat → Prop} (r : Rx) (v : Value) (w : World) (hT : Tab w) (h : ReAt ok w v r) (hsz : r.size ≤ 1048576) :
    Calls Tryd.prog 3 #[v] w fun e w' => e = .returned (.bool true) ∧ Below w.heap.size w w' := by
  obtain ⟨x0, x1, x2, x3, x4, xl, xn, xc, rfl⟩ := cells_re h
  have G1 := Lib.hid fun W (hb : Below w.heap.size w W) => great_any r 200 _ W (h.below hb) (by decide)
  have HM := Lib.hid (fun h => nfgreat_200 (r := r) h hsz)
  have KA := Lib.hid (awake7_any hRead)
  have B := Lib.hid (Bx.new w x0 x1 x2 x3 x4 xl xn xc)
  have KF := Lib.hid fun W (hb : Below w.heap.size w W) => firstX_any r _ W (h.below hb)
  have KS := Lib.hid fun W (hb : Below w.heap.size w W) => shortestX_any r _ W (tab_go hT hb) (h.below hb)
  have KO := Lib.hid fun W (hb : Below w.heap.size w W) => onlyX_any r _ W (h.below hb)
  have RF := Lib.hid fun (hz : r.size ≤ 200) W (hb : Below w.heap.size w W) => ref7First r _ W (by omega) (h.below hb)
  have RS := Lib.hid fun (hz : r.size ≤ 200) W (hb : Below w.heap.size w W) => ref7Shortest r _ W (by omega) (h.below hb)
  have RN := Lib.hid fun (hz : r.size ≤ 200) W (hb : Below w.heap.size w W) => ref7Null r _ W (by omega) (h.below hb)
  have HSO := Lib.hid (shr_of r)
  have okf := fstX_ok r
  have KH := Lib.hid fun n (hn : n < 256) W => refHas_any (fstX r) n W okf hn
  have eqF := Lib.hid (eqW_yes (fstX r))
  have eqN := Lib.hid (eqNil (fstX r))
  rw [show onlyX r = (nulX r && bareW (fstX r)) from rfl] at KO
  clear h hRead hT okf
  obtain ⟨st, q, hsv, hst⟩ : ∃ st q, shrV (shrX r) = .tuple #[.string st, .bool q] ∧ (st = ⟨#[]⟩ ∨ ∃ c t, st = ⟨(c :: t).toArray⟩ ∧ (fstX r).has c.toNat = true) := by
    rcases HSO.out with e | e | ⟨c, t, e, hc⟩
    · rw [e]; exact ⟨_, _, rfl, .inl rfl⟩
    · rw [e]; exact ⟨_, _, rfl, .inl rfl⟩
    · rw [e]; exact ⟨_, _, rfl, .inr ⟨c, t, rfl, hc⟩⟩
  rw [hsv] at KS RS
  have HST := Lib.hid hst
  clear hsv hst HSO
  generalize bareW (fstX r) = bw at *
  generalize nulX r = nu at *
  generalize fstX r = fs at *
  obtain ⟨fs0, fs1, fs2, fs3⟩ := fs
  unfold Ws.v at KF RF KH eqF eqN
  simp only [Ws.nil] at KF RF KH eqF eqN
  rw [show (((0 : Nat) : Int)) = 0 from rfl] at eqN
  go_enter Tryd.func3, Tryd.ntmps3
  go_wp2_with fail
  refine (G1.out _ B.out.2).mono ?_
  rintro e w' ⟨⟨p, rfl, hp⟩, hb⟩
  replace B := Lib.hid (B.out.go hb)
  have HP := Lib.hid hp
  clear hb hp
  cases p with
  | true =>
    go_wp2_with fail
    refine (KA.out _).mono ?_
    rintro e w2 ⟨rfl, hb⟩
    have hB := (B.out.go hb).2
    go_wp2
    go_ret
    exact ⟨rfl, hB⟩
  | false =>
      have hz := HM.out HP.out
      replace RF := Lib.hid (RF.out hz)
      replace RS := Lib.hid (RS.out hz)
      replace RN := Lib.hid (RN.out hz)
      clear HM HP hz G1
      obtain ⟨c0, c1, c2, c3, c4, c5, -⟩ := cellsR B.out.1
      go_wp2_with fail
      refine (KF.out _ B.out.2).mono ?_
      rintro e w1 ⟨rfl, hb1⟩
      have B1 := Lib.hid (show Bf w (w1.alloc (.cells #[.int .u64 fs0, .int .u64 fs1, .int .u64 fs2, .int .u64 fs3] 24)) (.cells #[.int .u8 x0, .int .u64 x1, .int .u64 x2, .int .u64 x3, .int .u64 x4, .slice xl xn xc] 27) w1.heap.size ⟨fs0, fs1, fs2, fs3⟩ from ⟨((B.out.go hb1).go (bel_al _ _)).1, Box.new4 w1 fs0 fs1 fs2 fs3, ((B.out.go hb1).go (bel_al _ _)).2⟩)
      have hlt1 : w.heap.size < w1.heap.size := (Array.getElem?_eq_some_iff.1 (B.out.go hb1).1).1
      obtain ⟨i0, i1, i2, i3, i4, i5, -⟩ := cellsR (B.out.go hb1).1
      clear hb1 c0 c1 c2 c3 c4 c5 B
      go_wp2_with fail
      refine (KS.out _ B1.out.2.2).mono ?_
      rintro e w2 ⟨rfl, hb2⟩
      replace B1 := Lib.hid (B1.out.go hb2)
      clear hb2 i0 i1 i2 i3 i4 i5
      obtain ⟨i0, i1, i2, i3, i4, i5, -⟩ := cellsR B1.out.1
      go_wp2_with fail
      refine (RS.out _ B1.out.2.2).mono ?_
      rintro e W ⟨rfl, hb2⟩
      replace B1 := Lib.hid (B1.out.go hb2)
      clear hb2 i0 i1 i2 i3 i4 i5 hlt1 KS RS KF
      have BB := Lib.hid B1.out.2.2
      generalize w1.heap.size = gs at *
      have CX := Lib.hid fun x (hx : Below W.heap.size W x) => cellsR (B1.out.go hx).1
      have CS := Lib.hid fun x (hx : Below W.heap.size W x) => (B1.out.go hx).2.1.cells
      simp only at CS
      replace RF := Lib.hid fun x (hx : Below W.heap.size W x) => RF.out x (B1.out.go hx).2.2
      replace RN := Lib.hid fun x (hx : Below W.heap.size W x) => RN.out x (B1.out.go hx).2.2
      replace KO := Lib.hid fun x (hx : Below W.heap.size W x) => KO.out x (B1.out.go hx).2.2
      go_wp2_with fail
      refine wp_region_order (fun i => ([SP.eq (.agg #[.int .u64 fs0, .int .u64 fs1, .int .u64 fs2, .int .u64 fs3]), SP.eq (.agg #[.int .u8 x0, .int .u64 x1, .int .u64 x2, .int .u64 x3, .int .u64 x4, .slice xl xn xc]), SP.eq (.agg #[.int .u64 fs0, .int .u64 fs1, .int .u64 fs2, .int .u64 fs3]), SP.eq (.bool (false)), SP.eq (.bool (false)), SP.eq (.string st), SP.eq (.string st), SP.eq (.bool (false)), SP.eq (.bool (false)), SP.eq (.bool (false)), SP.eq (.bool (q)), SP.eq (.bool (q)), SP.eq (.bool (false)), SP.eq (.bool (false)), SP.eq (.bool (false)), SP.eq (.agg #[.int .u8 x0, .int .u64 x1, .int .u64 x2, .int .u64 x3, .int .u64 x4, .slice xl xn xc]), SP.eq (.bool (nu && bw)), SP.eq (.agg #[.int .u8 x0, .int .u64 x1, .int .u64 x2, .int .u64 x3, .int .u64 x4, .slice xl xn xc]), SP.eq (.bool (nu)), SP.eq (.bool (nu)), SP.cond (nu) (SP.eq (.agg #[.int .u64 fs0, .int .u64 fs1, .int .u64 fs2, .int .u64 fs3])), SP.cond (nu) (SP.eq (.agg #[.int .u64 0, .int .u64 0, .int .u64 0, .int .u64 0])), SP.cond (nu) (SP.eq (.bool (bw))), SP.eq (.bool (nu && bw)), SP.eq (.bool (false)), SP.eq (.bool (false))] : List SP).getD i SP.free) (by kernel_rfl) (by kernel_rfl) ⟨?_, ?_, ?_, ?_, ?_, ?_, ?_, ?_, ?_, ?_, ?_, ?_, ?_, ?_, ?_, ?_, ?_, ?_, ?_, ?_, ?_, ?_, ?_, ?_, ?_, ?_, trivial⟩ ?_
      · intro a x K out get hb hK
        rw [if_pos (wanted_none rfl)]
        have o3 : a.tmps[3]? = some (.pointer (some ⟨gs, 0, none⟩)) := out 3 (by kernel_rfl)
        obtain ⟨c0, c1, c2, c3⟩ := CS.out x hb
        clear out get
        go_simp
        exact hK _ _ rfl (Below.refl _ _)
      · intro a x K out get hb hK
        rw [if_pos (wanted_none rfl)]
        have o1 : a.tmps[1]? = some (.pointer (some ⟨w.heap.size, 0, none⟩)) := out 1 (by kernel_rfl)
        obtain ⟨c0, c1, c2, c3, c4, c5, -⟩ := CX.out x hb
        clear out get
        go_simp
        exact hK _ _ rfl (Below.refl _ _)
      · intro a x K out get hb hK
        rw [if_pos (wanted_none rfl)]
        obtain ⟨y24, hy24, rfl⟩ := get 1 _ _ rfl rfl (by kernel_rfl)
        clear out get
        go_simp
        refine (RF.out x hb).mono ?_
        rintro e w2 ⟨rfl, hb2⟩
        exact hK _ _ rfl hb2
      · intro a x K out get hb hK
        rw [if_pos (wanted_none rfl)]
        obtain ⟨y23, hy23, rfl⟩ := get 0 _ _ rfl rfl (by kernel_rfl)
        obtain ⟨y25, hy25, rfl⟩ := get 2 _ _ rfl rfl (by kernel_rfl)
        clear out get
        have hq := eqF.out
        go_simp
        exact hK _ _ rfl (Below.refl _ _)
      · intro a x K out get hb hK
        rw [if_pos (wanted_none rfl)]
        obtain ⟨y26, hy26, rfl⟩ := get 3 _ _ rfl rfl (by kernel_rfl)
        clear out get
        go_simp
        exact hK _ _ rfl (Below.refl _ _)
      · intro a x K out get hb hK
        obtain ⟨yg, hyg, rfl⟩ := get 4 _ _ rfl rfl (by kernel_rfl)
        rw [if_pos (by rw [wanted_bool rfl rfl rfl hyg]; rfl)]
        clear hyg
        have o4 : a.tmps[4]? = some (.string st) := out 4 (by kernel_rfl)
        clear out get
        go_simp
        exact hK _ _ rfl (Below.refl _ _)
      · intro a x K out get hb hK
        obtain ⟨yg, hyg, rfl⟩ := get 4 _ _ rfl rfl (by kernel_rfl)
        rw [if_pos (by rw [wanted_bool rfl rfl rfl hyg]; rfl)]
        clear hyg
        have o6 : a.tmps[6]? = some (.string st) := out 6 (by kernel_rfl)
        clear out get
        go_simp
        exact hK _ _ rfl (Below.refl _ _)
      · intro a x K out get hb hK
        obtain ⟨yg, hyg, rfl⟩ := get 4 _ _ rfl rfl (by kernel_rfl)
        rw [if_pos (by rw [wanted_bool rfl rfl rfl hyg]; rfl)]
        clear hyg
        obtain ⟨y28, hy28, rfl⟩ := get 5 _ _ rfl rfl (by kernel_rfl)
        obtain ⟨y29, hy29, rfl⟩ := get 6 _ _ rfl rfl (by kernel_rfl)
        clear out get
        go_simp
        exact hK _ _ rfl (Below.refl _ _)
      · intro a x K out get hb hK
        rw [if_pos (wanted_none rfl)]
        obtain ⟨y27, hy27, rfl⟩ := get 4 _ _ rfl rfl (by kernel_rfl)
        obtain ⟨y30, hy30, rfl⟩ := get 7 _ _ rfl rfl (by kernel_rfl)
        clear out get
        go_simp
        exact hK _ _ rfl (Below.refl _ _)
      · intro a x K out get hb hK
        rw [if_pos (wanted_none rfl)]
        obtain ⟨y31, hy31, rfl⟩ := get 8 _ _ rfl rfl (by kernel_rfl)
        clear out get
        go_simp
        exact hK _ _ rfl (Below.refl _ _)
      · intro a x K out get hb hK
        obtain ⟨yg, hyg, rfl⟩ := get 9 _ _ rfl rfl (by kernel_rfl)
        rw [if_pos (by rw [wanted_bool rfl rfl rfl hyg]; rfl)]
        clear hyg
        have o5 : a.tmps[5]? = some (.bool q) := out 5 (by kernel_rfl)
        clear out get
        go_simp
        exact hK _ _ rfl (Below.refl _ _)
      · intro a x K out get hb hK
        obtain ⟨yg, hyg, rfl⟩ := get 9 _ _ rfl rfl (by kernel_rfl)
        rw [if_pos (by rw [wanted_bool rfl rfl rfl hyg]; rfl)]
        clear hyg
        have o7 : a.tmps[7]? = some (.bool q) := out 7 (by kernel_rfl)
        clear out get
        go_simp
        exact hK _ _ rfl (Below.refl _ _)
      · intro a x K out get hb hK
        obtain ⟨yg, hyg, rfl⟩ := get 9 _ _ rfl rfl (by kernel_rfl)
        rw [if_pos (by rw [wanted_bool rfl rfl rfl hyg]; rfl)]
        clear hyg
        obtain ⟨y33, hy33, rfl⟩ := get 10 _ _ rfl rfl (by kernel_rfl)
        obtain ⟨y34, hy34, rfl⟩ := get 11 _ _ rfl rfl (by kernel_rfl)
        clear out get
        go_simp
        exact hK _ _ rfl (Below.refl _ _)
      · intro a x K out get hb hK
        rw [if_pos (wanted_none rfl)]
        obtain ⟨y32, hy32, rfl⟩ := get 9 _ _ rfl rfl (by kernel_rfl)
        obtain ⟨y35, hy35, rfl⟩ := get 12 _ _ rfl rfl (by kernel_rfl)
        clear out get
        go_simp
        exact hK _ _ rfl (Below.refl _ _)
      · intro a x K out get hb hK
        rw [if_pos (wanted_none rfl)]
        obtain ⟨y36, hy36, rfl⟩ := get 13 _ _ rfl rfl (by kernel_rfl)
        clear out get
        go_simp
        exact hK _ _ rfl (Below.refl _ _)
      · intro a x K out get hb hK
        obtain ⟨yg, hyg, rfl⟩ := get 14 _ _ rfl rfl (by kernel_rfl)
        rw [if_pos (by rw [wanted_bool rfl rfl rfl hyg]; rfl)]
        clear hyg
        have o1 : a.tmps[1]? = some (.pointer (some ⟨w.heap.size, 0, none⟩)) := out 1 (by kernel_rfl)
        obtain ⟨c0, c1, c2, c3, c4, c5, -⟩ := CX.out x hb
        clear out get
        go_simp
        exact hK _ _ rfl (Below.refl _ _)
      · intro a x K out get hb hK
        obtain ⟨yg, hyg, rfl⟩ := get 14 _ _ rfl rfl (by kernel_rfl)
        rw [if_pos (by rw [wanted_bool rfl rfl rfl hyg]; rfl)]
        clear hyg
        obtain ⟨y38, hy38, rfl⟩ := get 15 _ _ rfl rfl (by kernel_rfl)
        clear out get
        go_simp
        refine (KO.out x hb).mono ?_
        rintro e w2 ⟨rfl, hb2⟩
        exact hK _ _ rfl hb2
      · intro a x K out get hb hK
        obtain ⟨yg, hyg, rfl⟩ := get 14 _ _ rfl rfl (by kernel_rfl)
        rw [if_pos (by rw [wanted_bool rfl rfl rfl hyg]; rfl)]
        clear hyg
        have o1 : a.tmps[1]? = some (.pointer (some ⟨w.heap.size, 0, none⟩)) := out 1 (by kernel_rfl)
        obtain ⟨c0, c1, c2, c3, c4, c5, -⟩ := CX.out x hb
        clear out get
        go_simp
        exact hK _ _ rfl (Below.refl _ _)
      · intro a x K out get hb hK
        obtain ⟨yg, hyg, rfl⟩ := get 14 _ _ rfl rfl (by kernel_rfl)
        rw [if_pos (by rw [wanted_bool rfl rfl rfl hyg]; rfl)]
        clear hyg
        obtain ⟨y40, hy40, rfl⟩ := get 17 _ _ rfl rfl (by kernel_rfl)
        clear out get
        go_simp
        refine (RN.out x hb).mono ?_
        rintro e w2 ⟨rfl, hb2⟩
        exact hK _ _ rfl hb2
      · intro a x K out get hb hK
        obtain ⟨yg, hyg, rfl⟩ := get 14 _ _ rfl rfl (by kernel_rfl)
        rw [if_pos (by rw [wanted_bool rfl rfl rfl hyg]; rfl)]
        clear hyg
        obtain ⟨y41, hy41, rfl⟩ := get 18 _ _ rfl rfl (by kernel_rfl)
        clear out get
        go_simp
        exact hK _ _ rfl (Below.refl _ _)
      · intro a x K out get hb hK
        cases nu with
        | true =>
          obtain ⟨yg, hyg, rfl⟩ := get 19 _ _ rfl rfl (by kernel_rfl)
          rw [if_pos (by rw [wanted_bool rfl rfl rfl hyg]; rfl)]
          clear hyg
          have o3 : a.tmps[3]? = some (.pointer (some ⟨gs, 0, none⟩)) := out 3 (by kernel_rfl)
          obtain ⟨c0, c1, c2, c3⟩ := CS.out x hb
          clear out get
          go_simp
          exact hK _ _ (fun _ => rfl) (Below.refl _ _)
        | false =>
          obtain ⟨yg, hyg, rfl⟩ := get 19 _ _ rfl rfl (by kernel_rfl)
          rw [if_neg (by rw [wanted_bool rfl rfl rfl hyg]; decide)]
          exact hK _ _ (fun h => by cases h) (Below.refl _ _)
      · intro a x K out get hb hK
        cases nu with
        | true =>
          obtain ⟨yg, hyg, rfl⟩ := get 19 _ _ rfl rfl (by kernel_rfl)
          rw [if_pos (by rw [wanted_bool rfl rfl rfl hyg]; rfl)]
          clear hyg
          clear out get
          go_simp
          exact hK _ _ (fun _ => rfl) (Below.refl _ _)
        | false =>
          obtain ⟨yg, hyg, rfl⟩ := get 19 _ _ rfl rfl (by kernel_rfl)
          rw [if_neg (by rw [wanted_bool rfl rfl rfl hyg]; decide)]
          exact hK _ _ (fun h => by cases h) (Below.refl _ _)
      · intro a x K out get hb hK
        cases nu with
        | true =>
          obtain ⟨yg, hyg, rfl⟩ := get 19 _ _ rfl rfl (by kernel_rfl)
          rw [if_pos (by rw [wanted_bool rfl rfl rfl hyg]; rfl)]
          clear hyg
          obtain ⟨y43, hy43, hp43⟩ := get 20 _ _ rfl rfl (by kernel_rfl)
          obtain rfl := hp43 rfl
          obtain ⟨y44, hy44, hp44⟩ := get 21 _ _ rfl rfl (by kernel_rfl)
          obtain rfl := hp44 rfl
          clear out get
          have hq := eqN.out
          go_simp
          exact hK _ _ (fun _ => rfl) (Below.refl _ _)
        | false =>
          obtain ⟨yg, hyg, rfl⟩ := get 19 _ _ rfl rfl (by kernel_rfl)
          rw [if_neg (by rw [wanted_bool rfl rfl rfl hyg]; decide)]
          exact hK _ _ (fun h => by cases h) (Below.refl _ _)
      · intro a x K out get hb hK
        obtain ⟨yg, hyg, rfl⟩ := get 14 _ _ rfl rfl (by kernel_rfl)
        rw [if_pos (by rw [wanted_bool rfl rfl rfl hyg]; rfl)]
        clear hyg
        cases nu with
        | true =>
          obtain ⟨y42, hy42, rfl⟩ := get 19 _ _ rfl rfl (by kernel_rfl)
          obtain ⟨y45, hy45, hp45⟩ := get 22 _ _ rfl rfl (by kernel_rfl)
          obtain rfl := hp45 rfl
          clear out get
          go_simp
          exact hK _ _ rfl (Below.refl _ _)
        | false =>
          obtain ⟨y42, hy42, rfl⟩ := get 19 _ _ rfl rfl (by kernel_rfl)
          obtain ⟨y45, hy45, -⟩ := get 22 _ _ rfl rfl (by kernel_rfl)
          clear out get
          go_simp
          exact hK _ _ rfl (Below.refl _ _)
      · intro a x K out get hb hK
        obtain ⟨yg, hyg, rfl⟩ := get 14 _ _ rfl rfl (by kernel_rfl)
        rw [if_pos (by rw [wanted_bool rfl rfl rfl hyg]; rfl)]
        clear hyg
        obtain ⟨y39, hy39, rfl⟩ := get 16 _ _ rfl rfl (by kernel_rfl)
        obtain ⟨y46, hy46, rfl⟩ := get 23 _ _ rfl rfl (by kernel_rfl)
        clear out get
        go_simp
        exact hK _ _ rfl (Below.refl _ _)
      · intro a x K out get hb hK
        rw [if_pos (wanted_none rfl)]
        obtain ⟨y37, hy37, rfl⟩ := get 14 _ _ rfl rfl (by kernel_rfl)
        obtain ⟨y47, hy47, rfl⟩ := get 24 _ _ rfl rfl (by kernel_rfl)
        clear out get
        go_simp
        exact hK _ _ rfl (Below.refl _ _)
      refine ao_fin (isD := fun s => decide (23 ≤ s) && decide (s ≤ 48)) (by kernel_rfl) ?_
      intro f W4 hv hb4
      have f48 : f 48 = .bool false := hv 25 _ _ rfl rfl
      clear hv
      simp only [frm]
      simp
      rw [f48]
      generalize f 23 = u23 at *
      generalize f 24 = u24 at *
      generalize f 25 = u25 at *
      generalize f 26 = u26 at *
      generalize f 27 = u27 at *
      generalize f 28 = u28 at *
      generalize f 29 = u29 at *
      generalize f 30 = u30 at *
      generalize f 31 = u31 at *
      generalize f 32 = u32 at *
      generalize f 33 = u33 at *
      generalize f 34 = u34 at *
      generalize f 35 = u35 at *
      generalize f 36 = u36 at *
      generalize f 37 = u37 at *
      generalize f 38 = u38 at *
      generalize f 39 = u39 at *
      generalize f 40 = u40 at *
      generalize f 41 = u41 at *
      generalize f 42 = u42 at *
      generalize f 43 = u43 at *
      generalize f 44 = u44 at *
      generalize f 45 = u45 at *
      generalize f 46 = u46 at *
      generalize f 47 = u47 at *
      clear f48 f
      replace CX := Lib.hid fun x (hx : Below W4.heap.size W4 x) => CX.out x (hb4.trans (hx.mono hb4.size))
      replace CS := Lib.hid fun x (hx : Below W4.heap.size W4 x) => CS.out x (hb4.trans (hx.mono hb4.size))
      replace BB := Lib.hid (BB.out.trans (hb4.mono BB.out.size))
      go_wp2_with fail
      rcases HST.out with rfl | ⟨c, t, rfl, hc⟩
      · clear HST KH
        refine wp_region_order (fun i => ([SP.eq (.string ⟨#[]⟩), SP.eq (.bool (true)), SP.eq (.bool (true)), SP.free, SP.free, SP.free, SP.free, SP.free, SP.eq (.bool (true)), SP.eq (.bool (true)), SP.eq (.bool (true)), SP.eq (.bool (true)), SP.eq (.bool (true))] : List SP).getD i SP.free) (by kernel_rfl) (by kernel_rfl) ⟨?_, ?_, ?_, ?_, ?_, ?_, ?_, ?_, ?_, ?_, ?_, ?_, ?_, trivial⟩ ?_
        · intro a x K out get hb hK
          rw [if_pos (wanted_none rfl)]
          have o4 : a.tmps[4]? = some (.string ⟨#[]⟩) := out 4 (by kernel_rfl)
          clear out get
          go_simp
          exact hK _ _ rfl (Below.refl _ _)
        · intro a x K out get hb hK
          rw [if_pos (wanted_none rfl)]
          obtain ⟨y49, hy49, rfl⟩ := get 0 _ _ rfl rfl (by kernel_rfl)
          clear out get
          go_simp
          exact hK _ _ rfl (Below.refl _ _)
        · intro a x K out get hb hK
          rw [if_pos (wanted_none rfl)]
          obtain ⟨y50, hy50, rfl⟩ := get 1 _ _ rfl rfl (by kernel_rfl)
          clear out get
          go_simp
          exact hK _ _ rfl (Below.refl _ _)
        · intro a x K out get hb hK
          obtain ⟨yg, hyg, rfl⟩ := get 2 _ _ rfl rfl (by kernel_rfl)
          rw [if_neg (by rw [wanted_bool rfl rfl rfl hyg]; decide)]
          exact hK _ _ trivial (Below.refl _ _)
        · intro a x K out get hb hK
          obtain ⟨yg, hyg, rfl⟩ := get 2 _ _ rfl rfl (by kernel_rfl)
          rw [if_neg (by rw [wanted_bool rfl rfl rfl hyg]; decide)]
          exact hK _ _ trivial (Below.refl _ _)
        · intro a x K out get hb hK
          obtain ⟨yg, hyg, rfl⟩ := get 2 _ _ rfl rfl (by kernel_rfl)
          rw [if_neg (by rw [wanted_bool rfl rfl rfl hyg]; decide)]
          exact hK _ _ trivial (Below.refl _ _)
        · intro a x K out get hb hK
          obtain ⟨yg, hyg, rfl⟩ := get 2 _ _ rfl rfl (by kernel_rfl)
          rw [if_neg (by rw [wanted_bool rfl rfl rfl hyg]; decide)]
          exact hK _ _ trivial (Below.refl _ _)
        · intro a x K out get hb hK
          obtain ⟨yg, hyg, rfl⟩ := get 2 _ _ rfl rfl (by kernel_rfl)
          rw [if_neg (by rw [wanted_bool rfl rfl rfl hyg]; decide)]
          exact hK _ _ trivial (Below.refl _ _)
        · intro a x K out get hb hK
          rw [if_pos (wanted_none rfl)]
          obtain ⟨y51, hy51, rfl⟩ := get 2 _ _ rfl rfl (by kernel_rfl)
          obtain ⟨y56, hy56, -⟩ := get 7 _ _ rfl rfl (by kernel_rfl)
          clear out get
          go_simp
          exact hK _ _ rfl (Below.refl _ _)
        · intro a x K out get hb hK
          rw [if_pos (wanted_none rfl)]
          obtain ⟨y57, hy57, rfl⟩ := get 8 _ _ rfl rfl (by kernel_rfl)
          clear out get
          go_simp
          exact hK _ _ rfl (Below.refl _ _)
        · intro a x K out get hb hK
          obtain ⟨yg, hyg, rfl⟩ := get 9 _ _ rfl rfl (by kernel_rfl)
          rw [if_pos (by rw [wanted_bool rfl rfl rfl hyg]; rfl)]
          clear hyg
          clear out get
          go_simp
          refine (KA.out x).mono ?_
          rintro e w2 ⟨rfl, hb2⟩
          exact hK _ _ rfl hb2
        · intro a x K out get hb hK
          rw [if_pos (wanted_none rfl)]
          obtain ⟨y58, hy58, rfl⟩ := get 9 _ _ rfl rfl (by kernel_rfl)
          obtain ⟨y59, hy59, rfl⟩ := get 10 _ _ rfl rfl (by kernel_rfl)
          clear out get
          go_simp
          exact hK _ _ rfl (Below.refl _ _)
        · intro a x K out get hb hK
          rw [if_pos (wanted_none rfl)]
          obtain ⟨y60, hy60, rfl⟩ := get 11 _ _ rfl rfl (by kernel_rfl)
          clear out get
          go_simp
          exact hK _ _ rfl (Below.refl _ _)
        refine ao_fin (isD := fun s => (decide (49 ≤ s) && decide (s ≤ 60)) || decide (s = 2)) (by kernel_rfl) ?_
        intro f W5 hv hb5
        have f2 : f 2 = .bool true := hv 12 _ _ rfl rfl
        clear hv
        simp only [frm]
        simp
        rw [f2]
        generalize f 49 = u49 at *
        generalize f 50 = u50 at *
        generalize f 51 = u51 at *
        generalize f 52 = u52 at *
        generalize f 53 = u53 at *
        generalize f 54 = u54 at *
        generalize f 55 = u55 at *
        generalize f 56 = u56 at *
        generalize f 57 = u57 at *
        generalize f 58 = u58 at *
        generalize f 59 = u59 at *
        generalize f 60 = u60 at *
        clear f2 f
        have hBB := BB.out.trans (hb5.mono BB.out.size)
        go_wp2
        go_ret
        exact ⟨rfl, hBB⟩
      · replace KH := Lib.hid (KH.out c.toNat c.toNat_lt)
        rw [hc] at KH
        clear HST hc
        refine wp_region_order (fun i => ([SP.eq (.string ⟨(c :: t).toArray⟩), SP.eq (.bool (false)), SP.eq (.bool (false)), SP.eq (.agg #[.int .u64 fs0, .int .u64 fs1, .int .u64 fs2, .int .u64 fs3]), SP.eq (.string ⟨(c :: t).toArray⟩), SP.eq (.int .u8 (c.toNat : Nat)), SP.eq (.int .i64 (c.toNat : Nat)), SP.eq (.bool (true)), SP.eq (.bool (true)), SP.eq (.bool (true)), SP.eq (.bool (true)), SP.eq (.bool (true)), SP.eq (.bool (true))] : List SP).getD i SP.free) (by kernel_rfl) (by kernel_rfl) ⟨?_, ?_, ?_, ?_, ?_, ?_, ?_, ?_, ?_, ?_, ?_, ?_, ?_, trivial⟩ ?_
        · intro a x K out get hb hK
          rw [if_pos (wanted_none rfl)]
          have o4 : a.tmps[4]? = some (.string ⟨(c :: t).toArray⟩) := out 4 (by kernel_rfl)
          clear out get
          go_simp
          exact hK _ _ rfl (Below.refl _ _)
        · intro a x K out get hb hK
          rw [if_pos (wanted_none rfl)]
          obtain ⟨y49, hy49, rfl⟩ := get 0 _ _ rfl rfl (by kernel_rfl)
          clear out get
          go_simp
          exact hK _ _ rfl (Below.refl _ _)
        · intro a x K out get hb hK
          rw [if_pos (wanted_none rfl)]
          obtain ⟨y50, hy50, rfl⟩ := get 1 _ _ rfl rfl (by kernel_rfl)
          clear out get
          go_simp
          exact hK _ _ rfl (Below.refl _ _)
        · intro a x K out get hb hK
          obtain ⟨yg, hyg, rfl⟩ := get 2 _ _ rfl rfl (by kernel_rfl)
          rw [if_pos (by rw [wanted_bool rfl rfl rfl hyg]; rfl)]
          clear hyg
          have o3 : a.tmps[3]? = some (.pointer (some ⟨gs, 0, none⟩)) := out 3 (by kernel_rfl)
          obtain ⟨c0, c1, c2, c3⟩ := CS.out x hb
          clear out get
          go_simp
          exact hK _ _ rfl (Below.refl _ _)
        · intro a x K out get hb hK
          obtain ⟨yg, hyg, rfl⟩ := get 2 _ _ rfl rfl (by kernel_rfl)
          rw [if_pos (by rw [wanted_bool rfl rfl rfl hyg]; rfl)]
          clear hyg
          have o4 : a.tmps[4]? = some (.string ⟨(c :: t).toArray⟩) := out 4 (by kernel_rfl)
          clear out get
          go_simp
          exact hK _ _ rfl (Below.refl _ _)
        · intro a x K out get hb hK
          obtain ⟨yg, hyg, rfl⟩ := get 2 _ _ rfl rfl (by kernel_rfl)
          rw [if_pos (by rw [wanted_bool rfl rfl rfl hyg]; rfl)]
          clear hyg
          obtain ⟨y53, hy53, rfl⟩ := get 4 _ _ rfl rfl (by kernel_rfl)
          clear out get
          go_simp
          exact hK _ _ rfl (Below.refl _ _)
        · intro a x K out get hb hK
          obtain ⟨yg, hyg, rfl⟩ := get 2 _ _ rfl rfl (by kernel_rfl)
          rw [if_pos (by rw [wanted_bool rfl rfl rfl hyg]; rfl)]
          clear hyg
          obtain ⟨y54, hy54, rfl⟩ := get 5 _ _ rfl rfl (by kernel_rfl)
          clear out get
          have hwr : IntKind.i64.wrap (c.toNat : Int) = c.toNat := by rw [IntKind.wrap_i64]; have := c.toNat_lt; omega
          go_simp
          exact hK _ _ rfl (Below.refl _ _)
        · intro a x K out get hb hK
          obtain ⟨yg, hyg, rfl⟩ := get 2 _ _ rfl rfl (by kernel_rfl)
          rw [if_pos (by rw [wanted_bool rfl rfl rfl hyg]; rfl)]
          clear hyg
          obtain ⟨y52, hy52, rfl⟩ := get 3 _ _ rfl rfl (by kernel_rfl)
          obtain ⟨y55, hy55, rfl⟩ := get 6 _ _ rfl rfl (by kernel_rfl)
          clear out get
          go_simp
          refine (KH.out x).mono ?_
          rintro e w2 ⟨rfl, hb2⟩
          exact hK _ _ rfl hb2
        · intro a x K out get hb hK
          rw [if_pos (wanted_none rfl)]
          obtain ⟨y51, hy51, rfl⟩ := get 2 _ _ rfl rfl (by kernel_rfl)
          obtain ⟨y56, hy56, rfl⟩ := get 7 _ _ rfl rfl (by kernel_rfl)
          clear out get
          go_simp
          exact hK _ _ rfl (Below.refl _ _)
        · intro a x K out get hb hK
          rw [if_pos (wanted_none rfl)]
          obtain ⟨y57, hy57, rfl⟩ := get 8 _ _ rfl rfl (by kernel_rfl)
          clear out get
          go_simp
          exact hK _ _ rfl (Below.refl _ _)
        · intro a x K out get hb hK
          obtain ⟨yg, hyg, rfl⟩ := get 9 _ _ rfl rfl (by kernel_rfl)
          rw [if_pos (by rw [wanted_bool rfl rfl rfl hyg]; rfl)]
          clear hyg
          clear out get
          go_simp
          refine (KA.out x).mono ?_
          rintro e w2 ⟨rfl, hb2⟩
          exact hK _ _ rfl hb2
        · intro a x K out get hb hK
          rw [if_pos (wanted_none rfl)]
          obtain ⟨y58, hy58, rfl⟩ := get 9 _ _ rfl rfl (by kernel_rfl)
          obtain ⟨y59, hy59, rfl⟩ := get 10 _ _ rfl rfl (by kernel_rfl)
          clear out get
          go_simp
          exact hK _ _ rfl (Below.refl _ _)
        · intro a x K out get hb hK
          rw [if_pos (wanted_none rfl)]
          obtain ⟨y60, hy60, rfl⟩ := get 11 _ _ rfl rfl (by kernel_rfl)
          clear out get
          go_simp
          exact hK _ _ rfl (Below.refl _ _)
        refine ao_fin (isD := fun s => (decide (49 ≤ s) && decide (s ≤ 60)) || decide (s = 2)) (by kernel_rfl) ?_
        intro f W5 hv hb5
        have f2 : f 2 = .bool true := hv 12 _ _ rfl rfl
        clear hv
        simp only [frm]
        simp
        rw [f2]
        generalize f 49 = u49 at *
        generalize f 50 = u50 at *
        generalize f 51 = u51 at *
        generalize f 52 = u52 at *
        generalize f 53 = u53 at *
        generalize f 54 = u54 at *
        generalize f 55 = u55 at *
        generalize f 56 = u56 at *
        generalize f 57 = u57 at *
        generalize f 58 = u58 at *
        generalize f 59 = u59 at *
        generalize f 60 = u60 at *
        clear f2 f
        have hBB := BB.out.trans (hb5.mono BB.out.size)
        go_wp2
        go_ret
        exact ⟨rfl, hBB⟩
end Go.Proofs.YthnecifdgoeenaaDoor
