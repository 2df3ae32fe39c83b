/- Lemmas of mine, merged: NullJ, NullIsW, NullWaysW, NullTwosW. -/
import Derived.Test.YthnecifdgoeenaaNullHAll
import Derived.Test.YthnecifdgoeenaaReadAAll
import Derived.Test.YthnecifdgoeenaaSetCAll
import Derived.Test.YthnecifdgoeenaaRexBAll
import Derived.Test.YthnecifdgoeenaaNullFAll
import Derived.Test.YthnecifdgoeenaaSetDAll
import Derived.Test.YthnecifdgoeenaaSetAAll
import Derived.Deep.CutRange
/- Layer 7's example. -/
namespace Go.Proofs.Ythnecifdgoeenaa
open Go.RowKit
def exAB : Ex := .seq (.star (.cls (rngW 97 97))) (.cls (rngW 98 98))
theorem px_ab : PX .alt [97, 42, 98] (.ok exAB []) :=
  PX.altOne (PX.rowMore (ex_atom 97 _ rfl (by decide) (by decide) (by decide)) rfl rfl (PX.rowOne (ex_atom 98 _ rfl (by decide) (by decide) (by decide)) rfl rfl)) (notAt_nil _)
theorem rd_ab : rdOf ⟨#[97, 42, 98]⟩ = .ok exAB := by
  rw [rdOf_px (s := ⟨#[97, 42, 98]⟩) px_ab]
  unfold topR
  rw [if_neg (by decide)]
  simp only [if_true]
  rw [if_pos (by decide)]
theorem ne_of_has {s : Ws} {n : Nat} (h : s.has n = true) : s ≠ Ws.nil := fun e => by rw [e, Ws.has_nil] at h; cases h
theorem wf_ab : exAB.Wf := ⟨⟨ofN_ok _, ne_of_has (n := 97) (by decide +kernel)⟩, ofN_ok _, ne_of_has (n := 98) (by decide +kernel)⟩
theorem fst_ab : exAB.fst = ofN [97, 98] := by decide +kernel
def Awake7C : Prop := ∀ (w : World), Calls Try.prog 7 #[] w fun x w' => x = .returned (.bool true) ∧ Below w.heap.size w w'
theorem bytes_two (w : World) (a b : UInt8) {g : Nat} (hg : g = w.heap.size) : BytesAt (w.alloc (.cells #[.int .u8 a.toNat, .int .u8 b.toNat] 5)) (some ⟨g, 0, none⟩) [a, b] := by
  subst hg
  refine ⟨by simp [maxLen], .inr ⟨_, 0, rfl, by simp, fun i h => ?_⟩⟩
  match i, h with
  | 0, _ => simp
  | 1, _ => simp
set_option maxHeartbeats 4000000 in
set_option maxRecDepth 100000 in
theorem awake7_any (hRead : ReadC) : Awake7C := by
  intro w
  have K1 := Lib.hid (hRead ⟨#[97, 42, 98]⟩ w (by decide))
  rw [rd_ab] at K1
  have hfx : fstX exAB.rx = ofN [97, 98] := by unfold fstX; rw [exX_of wf_ab (by decide)]; exact fst_ab
  have hnx : nulX exAB.rx = false := by unfold nulX; rw [exX_of wf_ab (by decide)]; rfl
  have KF := Lib.hid fun (ok : Nat → Prop) v W (h : ReAt ok W v exAB.rx) => firstX_any exAB.rx v W h
  have KN := Lib.hid fun (ok : Nat → Prop) al W (h : RowAt ok W al [exAB.rx]) => nullX_any [exAB.rx] al 1 W (by simp) h
  have e2 : [exAB.rx].all nulX = false := by simp [hnx]
  rw [e2, show [exAB.rx].length = 1 from rfl] at KN
  rw [hfx] at KF
  have KO := Lib.hid fun al W (h : BytesAt W al [97, 98]) => setOf_any al [97, 98] 2 W h
  rw [show [(97 : UInt8), 98].length = 2 from rfl, show natsOf [97, 98] = [97, 98] from rfl] at KO
  have hq := eqW_yes (ofN [97, 98])
  generalize ofN [97, 98] = s at *
  obtain ⟨sa, sb, sc, sd⟩ := s
  unfold Ws.v at KF KO hq
  simp only at KF KO hq
  clear e2 hfx hnx
  go_enter Try.func7, Try.ntmps7
  go_wp2_with fail
  refine K1.out.mono ?_
  rintro e w1 ⟨hb1, v, rfl, hv⟩
  obtain ⟨x0, x1, x2, x3, x4, xl, xn, xc, rfl⟩ := cells_re hv
  have hal := (Below.refl _ w1).alloc (Nat.le_refl _) (.cells #[.int .u8 x0, .int .u64 x1, .int .u64 x2, .int .u64 x3, .int .u64 x4, .slice xl xn xc] 30)
  have HX := Lib.hid (blk_new w1 (.cells #[.int .u8 x0, .int .u64 x1, .int .u64 x2, .int .u64 x3, .int .u64 x4, .slice xl xn xc] 30))
  have HV := Lib.hid (hv.below hal)
  have HB := Lib.hid (hb1.trans (hal.mono hb1.size))
  clear hal hb1 hv
  go_wp2_with fail
  refine (KF.out _ _ _ HV.out).mono ?_
  rintro e w2 ⟨rfl, hb2⟩
  have HV2 := Lib.hid (HV.out.below hb2)
  have HB2 := Lib.hid (HB.out.trans (hb2.mono HB.out.size))
  have HX2 := Lib.hid ((hb2.block _ (by simp)).trans HX.out)
  clear hb2 HV HB HX
  go_wp2_with fail
  refine (KO.out _ _ (bytes_two w2 97 98 rfl)).mono ?_
  rintro e w3 ⟨rfl, hb3⟩
  have hal := ((Below.refl _ w2).alloc (Nat.le_refl _) (.cells #[.int .u8 97, .int .u8 98] 5)).trans (hb3.mono (by simp))
  have HV3 := Lib.hid (HV2.out.below hal)
  have HB3 := Lib.hid (HB2.out.trans (hal.mono HB2.out.size))
  have HX3 := Lib.hid ((hal.block _ (Array.getElem?_eq_some_iff.1 HX2.out).1).trans HX2.out)
  clear hb3 hal HV2 HB2 HX2
  obtain ⟨c0, c1, c2, c3, c4, c5, -⟩ := cellsR HX3.out
  go_wp2_with fail
  refine (KN.out _ _ _ (row_new HV3.out)).mono ?_
  rintro e w4 ⟨rfl, hb4⟩
  have hal := ((Below.refl _ w3).alloc (Nat.le_refl _) (.cells #[.int .u8 x0, .int .u64 x1, .int .u64 x2, .int .u64 x3, .int .u64 x4, .slice xl xn xc] 30)).trans (hb4.mono (by simp))
  go_wp2
  go_ret
  exact ⟨rfl, HB3.out.trans (hal.mono HB3.out.size)⟩
end Go.Proofs.Ythnecifdgoeenaa
/- quilllaw07.NullIs, walked. -/
namespace Go.Proofs.Ythnecifdgoeenaa
open Go.RowKit
def nullIsInv (l : List Rx) (w : World) (v x y : Value) (wr : World) : Prop := ∃ (i : Nat) (q p : Bool), i ≤ l.length ∧ y = .int .i64 i ∧ q = (l.take i).all nulX ∧ p = (l.take i).any voidX ∧ v = .bool q ∧ x = .bool p ∧ Below w.heap.size w wr
theorem bool2 (q p : Bool) : (q = true ∧ p = true) ∨ (q = true ∧ p = false) ∨ (q = false ∧ p = true) ∨ (q = false ∧ p = false) := by cases q <;> cases p <;> simp
set_option maxHeartbeats 4000000 in
set_option maxRecDepth 100000 in
theorem nullIs_walk (hRead : ReadC) {ok : Nat → Prop} (al : Option Addr) (cap : Nat) (l : List Rx) (w : World) (hl : l.length < 2199023255552) (hR : RowAt ok w al l) (hsz : Rx.sizes l ≤ 1048576) :
    Calls Try.prog 3 #[.slice al l.length cap] w fun e w' => e = .returned (.bool true) ∧ Below w.heap.size w w' := by
  have KG := Lib.hid (greatAll_any l 200 al cap w hR hl (by decide))
  have KA := Lib.hid (awake7_any hRead)
  have KN := Lib.hid fun W (hb : Below w.heap.size w W) => nullX_any l al cap W hl (hR.below hb)
  have KV := Lib.hid fun W (hb : Below w.heap.size w W) => voidX_any l al cap W hl (hR.below hb)
  rw [any_void] at KV
  have HR := Lib.hid hR
  clear hR hRead
  go_enter Try.func3, Try.ntmps3
  go_wp2_with fail
  refine KG.out.mono ?_
  rintro e w1 ⟨g, rfl, -, hg, hb1⟩
  have HGE := Lib.hid (hg (by omega))
  clear hg
  cases g with
  | true =>
    go_wp2_with fail
    refine (KA.out _).mono ?_
    rintro e w2 ⟨rfl, hb2⟩
    go_wp2
    go_ret
    exact ⟨rfl, hb1.trans (hb2.mono hb1.size)⟩
  | false =>
    have hsmall : ∀ i (h : i < l.length), l[i].size ≤ 200 := by
      intro i h
      have h1 := HGE.out.symm
      simp only [greatAllB, Bool.or_eq_false_iff, List.any_eq_false] at h1
      have := h1.2 l[i] (List.getElem_mem h)
      simp [greatB] at this; omega
    have HSM := Lib.hid hsmall
    clear hsmall
    go_wp2
    go_loopw [3, 4, 5] (fun v x y wr => nullIsInv l w v x y wr) (fun _ _ y _ => l.length - (intOf y).toNat)
    case atStart => exact ⟨0, true, false, Nat.zero_le _, rfl, by simp, by simp, rfl, rfl, hb1⟩
    case round =>
      obtain ⟨i, q, p, hi, rfl, hq, hp, rfl, rfl, hb⟩ := hrel
      have HQ := Lib.hid hq
      have HP := Lib.hid hp
      clear hq hp
      by_cases hlt : i < l.length
      · obtain ⟨b, off, hab, hblt, hnode⟩ := HR.out.kid hlt
        subst hab
        have hsm := HSM.out i hlt
        have htk : (l.take (i + 1)).all nulX = ((l.take i).all nulX && nulX l[i]) := by
          rw [List.take_succ_eq_append_getElem hlt, List.all_append]; simp
        have htv : (l.take (i + 1)).any voidX = ((l.take i).any voidX || voidX l[i]) := by
          rw [List.take_succ_eq_append_getElem hlt, List.any_append]; simp
        generalize l[i] = kid at *
        obtain ⟨k', ⟨ta, tb, tc, td⟩, ks'⟩ := kid
        obtain ⟨al', cap', ⟨c0w, c1w, c2w, c3w, c4w, c5w⟩, hre⟩ := hnode.read
        simp only at c0w c1w c2w c3w c4w c5w
        have hc : Six6 w b (off + i * 6) (.int .u8 k') (.int .u64 ta) (.int .u64 tb) (.int .u64 tc) (.int .u64 td) (.slice al' ks'.length cap') := ⟨c0w, c1w, c2w, c3w, c4w, c5w⟩
        have K1 := Lib.hid fun W (h : Below w.heap.size w W) => ref7Null _ _ W (by omega) (hre.below h)
        have K2 := Lib.hid fun W (h : Below w.heap.size w W) => ref7Void _ _ W (by omega) (hre.below h)
        have HC := Lib.hid hc
        have T1 := Lib.hid htk
        have T2 := Lib.hid htv
        clear c0w c1w c2w c3w c4w c5w hc hre htk htv hnode
        generalize nulX (Rx.node k' ⟨ta, tb, tc, td⟩ ks') = nu at *
        generalize voidX (Rx.node k' ⟨ta, tb, tc, td⟩ ks') = vo at *
        have q1 : (i : Int) < (l.length : Int) := by omega
        obtain ⟨c0, c1, c2, c3, c4, c5⟩ := HC.out.go hblt hb
        rcases bool2 q p with ⟨rfl, rfl⟩ | ⟨rfl, rfl⟩ | ⟨rfl, rfl⟩ | ⟨rfl, rfl⟩
        · go_wp2_with fail
          refine (K1.out _ hb).mono ?_
          rintro e w2 ⟨rfl, hb2⟩
          replace hb := hb.trans (hb2.mono hb.size)
          clear c0 c1 c2 c3 c4 c5 hb2
          obtain ⟨c0, c1, c2, c3, c4, c5⟩ := HC.out.go hblt hb
          go_wp2
          exact ⟨⟨i + 1, nu, true, by omega, by go_num, by rw [T1.out, ← HQ.out]; rfl, by rw [T2.out, ← HP.out]; rfl, rfl, rfl, hb⟩, by simp [intOf]; omega⟩
        · go_wp2_with fail
          refine (K1.out _ hb).mono ?_
          rintro e w2 ⟨rfl, hb2⟩
          replace hb := hb.trans (hb2.mono hb.size)
          clear c0 c1 c2 c3 c4 c5 hb2
          obtain ⟨c0, c1, c2, c3, c4, c5⟩ := HC.out.go hblt hb
          go_wp2_with fail
          refine (K2.out _ hb).mono ?_
          rintro e w3 ⟨rfl, hb3⟩
          replace hb := hb.trans (hb3.mono hb.size)
          clear c0 c1 c2 c3 c4 c5 hb3
          go_wp2
          exact ⟨⟨i + 1, nu, vo, by omega, by go_num, by rw [T1.out, ← HQ.out]; rfl, by rw [T2.out, ← HP.out]; rfl, rfl, rfl, hb⟩, by simp [intOf]; omega⟩
        · go_wp2
          exact ⟨⟨i + 1, false, true, by omega, by go_num, by rw [T1.out, ← HQ.out]; rfl, by rw [T2.out, ← HP.out]; rfl, rfl, rfl, hb⟩, by simp [intOf]; omega⟩
        · go_wp2_with fail
          refine (K2.out _ hb).mono ?_
          rintro e w3 ⟨rfl, hb3⟩
          replace hb := hb.trans (hb3.mono hb.size)
          clear c0 c1 c2 c3 c4 c5 hb3
          go_wp2
          exact ⟨⟨i + 1, false, vo, by omega, by go_num, by rw [T1.out, ← HQ.out]; rfl, by rw [T2.out, ← HP.out]; rfl, rfl, rfl, hb⟩, by simp [intOf]; omega⟩
      · have he : l.take i = l := List.take_of_length_le (by omega)
        rw [he] at HQ HP
        rw [← HQ.out] at KN
        rw [← HP.out] at KV
        have hqq : (q == q) = true := by simp
        have hpp : (p == p) = true := by simp
        go_wp2_with fail
        refine (KN.out _ hb).mono ?_
        rintro e w2 ⟨rfl, hb2⟩
        replace hb := hb.trans (hb2.mono hb.size)
        clear hb2
        go_wp2_with fail
        refine (KV.out _ hb).mono ?_
        rintro e w3 ⟨rfl, hb3⟩
        replace hb := hb.trans (hb3.mono hb.size)
        clear hb3
        go_wp2_with fail
        refine (KA.out _).mono ?_
        rintro e w4 ⟨rfl, hb4⟩
        replace hb := hb.trans (hb4.mono hb.size)
        clear hb4
        go_wp2
        go_ret
        exact ⟨rfl, hb⟩
end Go.Proofs.Ythnecifdgoeenaa
/- quilllaw07.NullWays, walked. -/
namespace Go.Proofs.Ythnecifdgoeenaa
open Go.RowKit
theorem ngreat_200 {r : Rx} (h : r.size ≤ 1000000000 → false = greatB r 200) (hs : r.size ≤ 1048576) : r.size ≤ 200 := by
  have := (h (by omega)).symm
  simp [greatB] at this
  omega
theorem ways_of (e : Ex) (we : e.Wf) : ((!e.fit) = true → e.nul = false ∧ bareW e.fst = true) ∧ ((!e.fit) = false → e.nul = false → bareW e.fst = false) ∧ (cntL [e.fst] = 0 ↔ bareW e.fst = true) := by
  have h := void_fit e we
  refine ⟨fun hf => ?_, fun hf hn => ?_, ?_⟩
  · rw [hf] at h
    simp only [Bool.and_eq_true] at h
    exact ⟨by simpa using h.1, h.2⟩
  · rw [hf, hn] at h
    simpa using h
  · rw [bareW_iff]
    unfold cntL
    simp only [List.map_cons, List.map_nil, List.sum_cons, List.sum_nil, Nat.add_zero, List.length_eq_zero_iff]
    constructor
    · intro h0
      refine bytesN_inj (fst_ok e we) Ws.nil_ok ?_
      rw [h0]
      unfold bytesN
      rw [eq_comm, List.filter_eq_nil_iff]
      intro n _
      rw [Ws.has_nil]; simp
    · intro h0
      rw [h0]
      unfold bytesN
      rw [List.filter_eq_nil_iff]
      intro n _
      rw [Ws.has_nil]; simp
set_option maxHeartbeats 8000000 in
set_option maxRecDepth 100000 in
theorem nullWays_walk (hRead : ReadC) {ok : Nat → Prop} (r : Rx) (v : Value) (w : World) (h : ReAt ok w v r) (hsz : r.size ≤ 1048576) :
    Calls Try.prog 4 #[v] w fun e w' => e = .returned (.bool true) ∧ Below w.heap.size w w' := by
  obtain ⟨x0, x1, x2, x3, x4, xl, xn, xc, rfl⟩ := cells_re h
  have G1 := Lib.hid fun W (hb : Below w.heap.size w W) => great_any r 200 _ W (h.below hb) (by decide)
  have HM := Lib.hid (fun h => ngreat_200 (r := r) h hsz)
  have MM := Lib.hid fun (hz : r.size ≤ 200) W (hb : Below w.heap.size w W) => refMay_any r _ W (by omega) (h.below hb)
  have KA := Lib.hid (awake7_any hRead)
  have HH := Lib.hid h
  have B := Lib.hid (Bx.new w x0 x1 x2 x3 x4 xl xn xc)
  have hmay := fun hm => may_ex h hm
  have HE := Lib.hid hmay
  clear h hRead hmay
  obtain ⟨m, hm⟩ : ∃ m, mayR r = m := ⟨_, rfl⟩
  rw [hm] at MM HE
  clear hm
  go_enter Try.func4, Try.ntmps4
  go_wp2_with fail
  refine (G1.out _ B.out.2).mono ?_
  rintro e w' ⟨⟨p, rfl, hp⟩, hb⟩
  replace B := Lib.hid (B.out.go hb)
  have HP := Lib.hid hp
  clear hb hp
  cases p with
  | true =>
    go_wp2_with fail
    refine (KA.out _).mono ?_
    rintro e w2 ⟨rfl, hb⟩
    have hB := (B.out.go hb).2
    go_wp2
    go_ret
    exact ⟨rfl, hB⟩
  | false =>
    obtain ⟨c0, c1, c2, c3, c4, c5, -⟩ := cellsR B.out.1
    go_wp2_with fail
    refine (MM.out (HM.out HP.out) _ B.out.2).mono ?_
    rintro e w' ⟨rfl, hb⟩
    replace B := Lib.hid (B.out.go hb)
    clear hb c0 c1 c2 c3 c4 c5
    cases m with
    | false =>
      go_wp2_with fail
      refine (KA.out _).mono ?_
      rintro e w2 ⟨rfl, hb⟩
      have hB := (B.out.go hb).2
      go_wp2
      go_ret
      exact ⟨rfl, hB⟩
    | true =>
      obtain ⟨e0, he0, we, hs0⟩ := HE.out rfl
      have KV := Lib.hid fun g W (h : RowAt (fun _ => True) W (some ⟨g, 0, none⟩) [r]) => voidX_any [r] (some ⟨g, 0, none⟩) 1 W (by simp) h
      have KN := Lib.hid fun g W (h : RowAt (fun _ => True) W (some ⟨g, 0, none⟩) [r]) => nullX_any [r] (some ⟨g, 0, none⟩) 1 W (by simp) h
      have KF := Lib.hid fun W (hb : Below w.heap.size w W) => firstX_any r _ W (HH.out.below hb)
      have KO := Lib.hid fun W (hb : Below w.heap.size w W) => onlyX_any r _ W (HH.out.below hb)
      have ev : (![r].all nvX) = !e0.fit := by simp only [List.all_cons, List.all_nil, Bool.and_true, nvX, voidX]; rw [← he0, exX_of we hs0]; simp
      have en : [r].all nulX = e0.nul := by simp only [List.all_cons, List.all_nil, Bool.and_true, nulX]; rw [← he0, exX_of we hs0]; rfl
      have ef : fstX r = e0.fst := by unfold fstX; rw [← he0, exX_of we hs0]; rfl
      have eo : onlyX r = (e0.nul && bareW e0.fst) := by unfold onlyX nulX fstX; rw [← he0, exX_of we hs0]; rfl
      rw [ev] at KV
      rw [en] at KN
      rw [ef] at KF
      rw [eo] at KO
      rw [show [r].length = 1 from rfl] at KV KN
      have okf := fst_ok e0 we
      have KC := Lib.hid fun g W (h : SetsAt W (some ⟨g, 0, none⟩) [e0.fst]) => setCount_any (some ⟨g, 0, none⟩) [e0.fst] 1 W h (by simp)
      rw [show [e0.fst].length = 1 from rfl] at KC
      have HF := Lib.hid (fun (W : World) (g : Nat) (h : W.heap[g]? = some (.cells #[.int .u64 e0.fst.a, .int .u64 e0.fst.b, .int .u64 e0.fst.c, .int .u64 e0.fst.d] 28 (0, 0))) => nsets_one okf h)
      have HL := Lib.hid (ways_of e0 we)
      have hcl : cntL [e0.fst] ≤ 256 := by have := cntL_le [e0.fst]; simpa using this
      clear ev en ef eo okf he0 we hs0
      generalize cntL [e0.fst] = n at *
      generalize bareW e0.fst = bw at *
      generalize (!e0.fit) = vo at *
      generalize e0.nul = nu at *
      generalize e0.fst = fs at *
      obtain ⟨fs0, fs1, fs2, fs3⟩ := fs
      unfold Ws.v at KF
      simp only at KF HF
      have HRW := Lib.hid fun W (hb : Below w.heap.size w W) => row_new (HH.out.below hb)
      obtain ⟨W, hW⟩ : ∃ x, x = w' := ⟨_, rfl⟩
      subst hW
      have CX := Lib.hid fun x (hx : Below W.heap.size W x) => cellsR (B.out.go hx).1
      have BX := Lib.hid fun x (hx : Below W.heap.size W x) => (B.out.go hx).2
      go_wp2_with fail
      refine wp_region_order (fun i => ([SP.eq (.agg #[.int .u8 x0, .int .u64 x1, .int .u64 x2, .int .u64 x3, .int .u64 x4, .slice xl xn xc]), SP.row r, SP.eq (.bool vo), SP.eq (.agg #[.int .u8 x0, .int .u64 x1, .int .u64 x2, .int .u64 x3, .int .u64 x4, .slice xl xn xc]), SP.row r, SP.eq (.bool nu), SP.eq (.agg #[.int .u8 x0, .int .u64 x1, .int .u64 x2, .int .u64 x3, .int .u64 x4, .slice xl xn xc]), SP.eq (.agg #[.int .u64 fs0, .int .u64 fs1, .int .u64 fs2, .int .u64 fs3]), SP.sets [⟨fs0, fs1, fs2, fs3⟩] 1, SP.eq (.int .i64 n), SP.eq (.bool vo), SP.eq (.bool nu), SP.eq (.int .i64 n)] : List SP).getD i SP.free) (by kernel_rfl) (by kernel_rfl) ?_ ?_
      · refine ⟨?_, ?_, ?_, ?_, ?_, ?_, ?_, ?_, ?_, ?_, ?_, ?_, ?_, trivial⟩
        · intro a x K out get hb hK
          rw [if_pos (wanted_none rfl)]
          have o1 : a.tmps[1]? = some (.pointer (some ⟨w.heap.size, 0, none⟩)) := out 1 (by kernel_rfl)
          obtain ⟨c0, c1, c2, c3, c4, c5, -⟩ := CX.out x hb
          clear out get
          go_simp
          exact hK _ _ rfl (Below.refl _ _)
        · intro a x K out get hb hK
          rw [if_pos (wanted_none rfl)]
          obtain ⟨y, hy, rfl⟩ := get 0 _ _ rfl rfl (by kernel_rfl)
          clear out get
          go_simp
          exact hK _ _ ⟨_, rfl, HRW.out _ (BX.out x hb)⟩ (bel_al _ _)
        · intro a x K out get hb hK
          rw [if_pos (wanted_none rfl)]
          obtain ⟨y, hy, ⟨g, rfl, hrow⟩⟩ := get 1 _ _ rfl rfl (by kernel_rfl)
          clear out get
          go_simp
          refine (KV.out _ _ hrow).mono ?_
          rintro e w2 ⟨rfl, hb2⟩
          exact hK _ _ rfl hb2
        · intro a x K out get hb hK
          rw [if_pos (wanted_none rfl)]
          have o1 : a.tmps[1]? = some (.pointer (some ⟨w.heap.size, 0, none⟩)) := out 1 (by kernel_rfl)
          obtain ⟨c0, c1, c2, c3, c4, c5, -⟩ := CX.out x hb
          clear out get
          go_simp
          exact hK _ _ rfl (Below.refl _ _)
        · intro a x K out get hb hK
          rw [if_pos (wanted_none rfl)]
          obtain ⟨y, hy, rfl⟩ := get 3 _ _ rfl rfl (by kernel_rfl)
          clear out get
          go_simp
          exact hK _ _ ⟨_, rfl, HRW.out _ (BX.out x hb)⟩ (bel_al _ _)
        · intro a x K out get hb hK
          rw [if_pos (wanted_none rfl)]
          obtain ⟨y, hy, ⟨g, rfl, hrow⟩⟩ := get 4 _ _ rfl rfl (by kernel_rfl)
          clear out get
          go_simp
          refine (KN.out _ _ hrow).mono ?_
          rintro e w2 ⟨rfl, hb2⟩
          exact hK _ _ rfl hb2
        · intro a x K out get hb hK
          rw [if_pos (wanted_none rfl)]
          have o1 : a.tmps[1]? = some (.pointer (some ⟨w.heap.size, 0, none⟩)) := out 1 (by kernel_rfl)
          obtain ⟨c0, c1, c2, c3, c4, c5, -⟩ := CX.out x hb
          clear out get
          go_simp
          exact hK _ _ rfl (Below.refl _ _)
        · intro a x K out get hb hK
          rw [if_pos (wanted_none rfl)]
          obtain ⟨y, hy, rfl⟩ := get 6 _ _ rfl rfl (by kernel_rfl)
          clear out get
          go_simp
          refine (KF.out _ (BX.out x hb)).mono ?_
          rintro e w2 ⟨rfl, hb2⟩
          exact hK _ _ rfl hb2
        · intro a x K out get hb hK
          rw [if_pos (wanted_none rfl)]
          obtain ⟨y, hy, rfl⟩ := get 7 _ _ rfl rfl (by kernel_rfl)
          clear out get
          go_simp
          exact hK _ _ ⟨_, rfl, HF.out _ _ (blk_new x _)⟩ (bel_al _ _)
        · intro a x K out get hb hK
          rw [if_pos (wanted_none rfl)]
          obtain ⟨y, hy, ⟨g, rfl, hrow⟩⟩ := get 8 _ _ rfl rfl (by kernel_rfl)
          clear out get
          go_simp
          refine (KC.out _ _ hrow).mono ?_
          rintro e w2 ⟨rfl, hb2⟩
          exact hK _ _ rfl hb2
        · intro a x K out get hb hK
          rw [if_pos (wanted_none rfl)]
          obtain ⟨y2, hy2, rfl⟩ := get 2 _ _ rfl rfl (by kernel_rfl)
          clear out get
          go_simp
          exact hK _ _ rfl (Below.refl _ _)
        · intro a x K out get hb hK
          rw [if_pos (wanted_none rfl)]
          obtain ⟨y5, hy5, rfl⟩ := get 5 _ _ rfl rfl (by kernel_rfl)
          clear out get
          go_simp
          exact hK _ _ rfl (Below.refl _ _)
        · intro a x K out get hb hK
          rw [if_pos (wanted_none rfl)]
          obtain ⟨y9, hy9, rfl⟩ := get 9 _ _ rfl rfl (by kernel_rfl)
          clear out get
          go_simp
          exact hK _ _ rfl (Below.refl _ _)
      · refine ao_fin (isD := fun s => (decide (14 ≤ s) && decide (s ≤ 23)) || (decide (3 ≤ s) && decide (s ≤ 5))) (by kernel_rfl) ?_
        intro f x hv hb
        have h3 : f 3 = .bool vo := hv 10 _ _ rfl rfl
        have h4 : f 4 = .bool nu := hv 11 _ _ rfl rfl
        have h5 : f 5 = .int .i64 n := hv 12 _ _ rfl rfl
        clear hv
        simp only [frm]
        simp
        rw [h3, h4, h5]
        generalize f 14 = u14 at *
        generalize f 15 = u15 at *
        generalize f 16 = u16 at *
        generalize f 17 = u17 at *
        generalize f 18 = u18 at *
        generalize f 19 = u19 at *
        generalize f 20 = u20 at *
        generalize f 21 = u21 at *
        generalize f 22 = u22 at *
        generalize f 23 = u23 at *
        clear h3 h4 h5 f
        have HB := Lib.hid (B.out.go hb)
        obtain ⟨c0, c1, c2, c3, c4, c5, -⟩ := cellsR HB.out.1
        clear hb CX BX HRW HF KC KF KV KN G1 MM HM HE
        obtain ⟨l1, l2, l3⟩ := HL.out
        clear HL
        have hcs : (vo = true ∧ nu = false ∧ bw = true ∧ n = 0) ∨ (vo = false ∧ nu = true ∧ bw = true ∧ n = 0) ∨ (vo = false ∧ nu = true ∧ bw = false ∧ 0 < n) ∨ (vo = false ∧ nu = false ∧ bw = false ∧ 0 < n) := by
          cases vo with
          | true =>
            obtain ⟨rfl, rfl⟩ := l1 rfl
            exact .inl ⟨rfl, rfl, rfl, l3.2 rfl⟩
          | false =>
            cases nu with
            | true =>
              cases bw with
              | true => exact .inr (.inl ⟨rfl, rfl, rfl, l3.2 rfl⟩)
              | false => exact .inr (.inr (.inl ⟨rfl, rfl, rfl, Nat.pos_of_ne_zero fun e => by simpa using l3.1 e⟩))
            | false =>
              obtain rfl := l2 rfl rfl
              exact .inr (.inr (.inr ⟨rfl, rfl, rfl, Nat.pos_of_ne_zero fun e => by simpa using l3.1 e⟩))
        clear l1 l2 l3
        rcases hcs with ⟨rfl, rfl, rfl, rfl⟩ | ⟨rfl, rfl, rfl, rfl⟩ | ⟨rfl, rfl, rfl, hn⟩ | ⟨rfl, rfl, rfl, hn⟩
        · rw [show ((0 : Nat) : Int) = 0 from rfl]
          go_wp2_with fail
          refine (KO.out _ HB.out.2).mono ?_
          rintro e w2 ⟨rfl, hb2⟩
          have hB2 := (HB.out.go hb2).2
          clear hb2 c0 c1 c2 c3 c4 c5
          go_wp2_with fail
          refine (KA.out _).mono ?_
          rintro e w3 ⟨rfl, hb3⟩
          go_wp2
          go_ret
          exact ⟨rfl, hB2.trans (hb3.mono hB2.size)⟩
        · rw [show ((0 : Nat) : Int) = 0 from rfl]
          go_wp2_with fail
          refine (KO.out _ HB.out.2).mono ?_
          rintro e w2 ⟨rfl, hb2⟩
          have hB2 := (HB.out.go hb2).2
          clear hb2 c0 c1 c2 c3 c4 c5
          go_wp2_with fail
          refine (KA.out _).mono ?_
          rintro e w3 ⟨rfl, hb3⟩
          go_wp2
          go_ret
          exact ⟨rfl, hB2.trans (hb3.mono hB2.size)⟩
        · have d0 : ((n : Int) == 0) = false := by simp; omega
          have d1 : decide ((0 : Int) < (n : Int)) = true := by simp; omega
          go_wp2_with fail
          refine (KO.out _ HB.out.2).mono ?_
          rintro e w2 ⟨rfl, hb2⟩
          have hB2 := (HB.out.go hb2).2
          clear hb2 c0 c1 c2 c3 c4 c5
          go_wp2_with fail
          refine (KA.out _).mono ?_
          rintro e w3 ⟨rfl, hb3⟩
          go_wp2
          go_ret
          exact ⟨rfl, hB2.trans (hb3.mono hB2.size)⟩
        · have d0 : ((n : Int) == 0) = false := by simp; omega
          have d1 : decide ((0 : Int) < (n : Int)) = true := by simp; omega
          go_wp2_with fail
          refine (KO.out _ HB.out.2).mono ?_
          rintro e w2 ⟨rfl, hb2⟩
          have hB2 := (HB.out.go hb2).2
          clear hb2 c0 c1 c2 c3 c4 c5
          go_wp2_with fail
          refine (KA.out _).mono ?_
          rintro e w3 ⟨rfl, hb3⟩
          go_wp2
          go_ret
          exact ⟨rfl, hB2.trans (hb3.mono hB2.size)⟩
end Go.Proofs.Ythnecifdgoeenaa
/- quilllaw07.NullTwos, walked: its four drawn regions by AnyOrd. Made by wip/r7-twos.py. -/
namespace Go.Proofs.Ythnecifdgoeenaa
open Go.RowKit
theorem ngreat_60 {r : Rx} (h : r.size ≤ 1000000000 → false = greatB r 60) (hs : r.size ≤ 1048576) : r.size ≤ 60 := by
  have := (h (by omega)).symm
  simp [greatB] at this
  omega
theorem Hv.below {r : Rx} {g : Nat} {w w' : World} (h : Hv r g w) (hb : Below w.heap.size w w') : Hv r g w' := by
  obtain ⟨p0, p1, p2, p3, p4, pl, pn, pc, h1, h2⟩ := h
  exact ⟨p0, p1, p2, p3, p4, pl, pn, pc, (hb.block _ (Array.getElem?_eq_some_iff.1 h1).1).trans h1, h2.below hb⟩
theorem null_ex {e : Ex} (we : e.Wf) (hs : e.size ≤ 2000) (g : Nat) (W : World) (h : RowAt (fun _ => True) W (some ⟨g, 0, none⟩) [e.rx]) : Calls Try.prog 10 #[.slice (some ⟨g, 0, none⟩) 1 1] W fun x w' => x = .returned (.bool e.nul) ∧ Below W.heap.size W w' := by
  have := nullX_any [e.rx] (some ⟨g, 0, none⟩) 1 W (by simp) h
  simp only [List.all_cons, List.all_nil, Bool.and_true, nulX, exX_of we hs] at this
  exact this
theorem void_ex {e : Ex} (we : e.Wf) (hs : e.size ≤ 2000) (g : Nat) (W : World) (h : RowAt (fun _ => True) W (some ⟨g, 0, none⟩) [e.rx]) : Calls Try.prog 11 #[.slice (some ⟨g, 0, none⟩) 1 1] W fun x w' => x = .returned (.bool (!e.fit)) ∧ Below W.heap.size W w' := by
  have := voidX_any [e.rx] (some ⟨g, 0, none⟩) 1 W (by simp) h
  simp only [List.all_cons, List.all_nil, Bool.and_true, nvX, voidX, exX_of we hs, Bool.not_not] at this
  exact this
theorem first_ex {e : Ex} (we : e.Wf) (hs : e.size ≤ 2000) {ok : Nat → Prop} (v : Value) (W : World) (h : ReAt ok W v e.rx) : Calls Try.prog 15 #[v] W fun x w' => x = .returned e.fst.v ∧ Below W.heap.size W w' := by
  have := firstX_any e.rx v W h
  simp only [fstX, exX_of we hs] at this
  exact this
set_option maxHeartbeats 16000000 in
set_option maxRecDepth 100000 in
theorem nullTwos_walk (hRead : ReadC) {ok : Nat → Prop} (ra rb : Rx) (v u : Value) (w : World) (h : ReAt ok w v ra) (h' : ReAt ok w u rb) (ha : ra.size ≤ 1048576) (hb : rb.size ≤ 1048576) :
    Calls Try.prog 5 #[v, u] w fun e w' => e = .returned (.bool true) ∧ Below w.heap.size w w' := by
  obtain ⟨x0, x1, x2, x3, x4, xl, xn, xc, rfl⟩ := cells_re h
  obtain ⟨y0, y1, y2, y3, y4, yl, yn, yc, rfl⟩ := cells_re h'
  have G1 := Lib.hid fun W (hb : Below w.heap.size w W) => great_any ra 60 _ W (h.below hb) (by decide)
  have HM1 := Lib.hid (fun h => ngreat_60 (r := ra) h ha)
  have MM1 := Lib.hid fun (hz : ra.size ≤ 60) W (hb : Below w.heap.size w W) => refMay_any ra _ W (by omega) (h.below hb)
  have G2 := Lib.hid fun W (hb : Below w.heap.size w W) => great_any rb 60 _ W (h'.below hb) (by decide)
  have HM2 := Lib.hid (fun h => ngreat_60 (r := rb) h hb)
  have MM2 := Lib.hid fun (hz : rb.size ≤ 60) W (hb : Below w.heap.size w W) => refMay_any rb _ W (by omega) (h'.below hb)
  have KA := Lib.hid (awake7_any hRead)
  have HA := Lib.hid h
  have HB := Lib.hid h'
  have HE1 := Lib.hid fun hm => may_ex h hm
  have HE2 := Lib.hid fun hm => may_ex h' hm
  clear h h' hRead
  obtain ⟨m1, hm1⟩ : ∃ m, mayR ra = m := ⟨_, rfl⟩
  obtain ⟨m2, hm2⟩ : ∃ m, mayR rb = m := ⟨_, rfl⟩
  rw [hm1] at MM1 HE1
  rw [hm2] at MM2 HE2
  clear hm1 hm2
  have B := Lib.hid (Bx2.new w (.cells #[.int .u8 x0, .int .u64 x1, .int .u64 x2, .int .u64 x3, .int .u64 x4, .slice xl xn xc] 30) (.cells #[.int .u8 y0, .int .u64 y1, .int .u64 y2, .int .u64 y3, .int .u64 y4, .slice yl yn yc] 30))
  go_enter Try.func5, Try.ntmps5
  go_wp2_with fail
  obtain ⟨d0, d1, d2, d3, d4, d5, -⟩ := cellsR B.out.1
  obtain ⟨k0, k1, k2, k3, k4, k5, -⟩ := cellsR B.out.2.1
  refine (G1.out _ B.out.2.2).mono ?_
  rintro e w' ⟨⟨p, rfl, hp1⟩, hb⟩
  replace B := Lib.hid (B.out.go hb)
  have HP1 := Lib.hid hp1
  clear hb hp1 d0 d1 d2 d3 d4 d5 k0 k1 k2 k3 k4 k5
  cases p with
  | true =>
    go_wp2_with fail
    refine (KA.out _).mono ?_
    rintro e w2 ⟨rfl, hb⟩
    have hB := (B.out.go hb).2.2
    go_wp2
    go_ret
    exact ⟨rfl, hB⟩
  | false =>
    obtain ⟨d0, d1, d2, d3, d4, d5, -⟩ := cellsR B.out.1
    obtain ⟨k0, k1, k2, k3, k4, k5, -⟩ := cellsR B.out.2.1
    go_wp2_with fail
    refine (G2.out _ B.out.2.2).mono ?_
    rintro e w' ⟨⟨p, rfl, hp2⟩, hb⟩
    replace B := Lib.hid (B.out.go hb)
    have HP2 := Lib.hid hp2
    clear hb hp2 d0 d1 d2 d3 d4 d5 k0 k1 k2 k3 k4 k5
    cases p with
    | true =>
      go_wp2_with fail
      refine (KA.out _).mono ?_
      rintro e w2 ⟨rfl, hb⟩
      have hB := (B.out.go hb).2.2
      go_wp2
      go_ret
      exact ⟨rfl, hB⟩
    | false =>
      obtain ⟨d0, d1, d2, d3, d4, d5, -⟩ := cellsR B.out.1
      obtain ⟨k0, k1, k2, k3, k4, k5, -⟩ := cellsR B.out.2.1
      have Z1 := Lib.hid (HM1.out HP1.out)
      have Z2 := Lib.hid (HM2.out HP2.out)
      clear HM1 HM2 HP1 HP2 G1 G2
      go_wp2_with fail
      refine (MM1.out Z1.out _ B.out.2.2).mono ?_
      rintro e w' ⟨rfl, hb⟩
      replace B := Lib.hid (B.out.go hb)
      clear hb d0 d1 d2 d3 d4 d5 k0 k1 k2 k3 k4 k5
      cases m1 with
      | false =>
        go_wp2_with fail
        refine (KA.out _).mono ?_
        rintro e w2 ⟨rfl, hb⟩
        have hB := (B.out.go hb).2.2
        go_wp2
        go_ret
        exact ⟨rfl, hB⟩
      | true =>
        have HX1 := Lib.hid (HE1.out rfl)
        clear HE1
        obtain ⟨d0, d1, d2, d3, d4, d5, -⟩ := cellsR B.out.1
        obtain ⟨k0, k1, k2, k3, k4, k5, -⟩ := cellsR B.out.2.1
        go_wp2_with fail
        refine (MM2.out Z2.out _ B.out.2.2).mono ?_
        rintro e w' ⟨rfl, hb⟩
        replace B := Lib.hid (B.out.go hb)
        clear hb d0 d1 d2 d3 d4 d5 k0 k1 k2 k3 k4 k5
        cases m2 with
        | false =>
          go_wp2_with fail
          refine (KA.out _).mono ?_
          rintro e w2 ⟨rfl, hb⟩
          have hB := (B.out.go hb).2.2
          go_wp2
          go_ret
          exact ⟨rfl, hB⟩
        | true =>
          obtain ⟨ea, rfl, wa, sa⟩ := HX1.out
          obtain ⟨eb, rfl, wb, sb⟩ := HE2.out rfl
          have za : ea.size ≤ 60 := by have := Z1.out; rwa [Ex.size_rx] at this
          have zb : eb.size ≤ 60 := by have := Z2.out; rwa [Ex.size_rx] at this
          clear HX1 HE2 MM1 MM2 Z1 Z2 ha hb
          obtain ⟨W, hW⟩ : ∃ x, x = w' := ⟨_, rfl⟩
          subst hW
          have CA := Lib.hid fun x (hx : Below W.heap.size W x) => cellsR (B.out.go hx).1
          have CB := Lib.hid fun x (hx : Below W.heap.size W x) => cellsR (B.out.go hx).2.1
          have EA := Lib.hid fun x (hx : Below W.heap.size W x) => (HA.out.imp (ok' := fun _ => True) fun _ _ _ => trivial).below (B.out.go hx).2.2
          have EB := Lib.hid fun x (hx : Below W.heap.size W x) => (HB.out.imp (ok' := fun _ => True) fun _ _ _ => trivial).below (B.out.go hx).2.2
          have K2 := Lib.hid fun k (hk : k < 256) x (hx : Below W.heap.size W x) => two_any k ea.rx eb.rx _ _ x hk (EA.out x hx) (EB.out x hx)
          have K1 := Lib.hid fun x (hx : Below W.heap.size W x) => many_any ea.rx _ x (EA.out x hx)
          go_wp2_with fail
          go_cut [5, 6, 7] from 27 to 34 (fun s5 s6 s7 wc => Tw W (Ex.seq ea eb).rx (Ex.alt ea eb).rx (Ex.star ea).rx s5 s6 s7 wc)
          case first =>
            refine wp_region_orderT 11 (fun i => ([SP.eq (.agg #[.int .u8 x0, .int .u64 x1, .int .u64 x2, .int .u64 x3, .int .u64 x4, .slice xl xn xc]), SP.eq (.agg #[.int .u8 y0, .int .u64 y1, .int .u64 y2, .int .u64 y3, .int .u64 y4, .slice yl yn yc]), SP.re (Ex.seq ea eb).rx, SP.eq (.agg #[.int .u8 x0, .int .u64 x1, .int .u64 x2, .int .u64 x3, .int .u64 x4, .slice xl xn xc]), SP.eq (.agg #[.int .u8 y0, .int .u64 y1, .int .u64 y2, .int .u64 y3, .int .u64 y4, .slice yl yn yc]), SP.re (Ex.alt ea eb).rx, SP.eq (.agg #[.int .u8 x0, .int .u64 x1, .int .u64 x2, .int .u64 x3, .int .u64 x4, .slice xl xn xc]), SP.re (Ex.star ea).rx, SP.var W.heap.size, SP.var W.heap.size, SP.var W.heap.size] : List SP).getD i SP.free) (fun i => decide (8 ≤ i) && decide (i ≤ 10)) ?_ (by kernel_rfl) (by kernel_rfl) ?_ ?_
            · intro j y x hj hp
              have hj' : j = 8 ∨ j = 9 ∨ j = 10 := by simp at hj; omega
              rcases hj' with rfl | rfl | rfl <;> (obtain ⟨g, h1, _, h2, _⟩ := hp; exact ⟨g, h1, h2⟩)
            · refine ⟨?_, ?_, ?_, ?_, ?_, ?_, ?_, ?_, ?_, ?_, ?_, trivial⟩
              · intro a x K out get hb hK
                rw [if_pos (wanted_none rfl)]
                have o2 : a.tmps[2]? = some (.pointer (some ⟨w.heap.size, 0, none⟩)) := out 2 (by kernel_rfl)
                obtain ⟨c0, c1, c2, c3, c4, c5, -⟩ := CA.out x hb
                clear out get
                go_simp
                exact hK _ _ rfl (Below.refl _ _) (fun h => by cases h)
              · intro a x K out get hb hK
                rw [if_pos (wanted_none rfl)]
                have o3 : a.tmps[3]? = some (.pointer (some ⟨w.heap.size + 1, 0, none⟩)) := out 3 (by kernel_rfl)
                obtain ⟨c0, c1, c2, c3, c4, c5, -⟩ := CB.out x hb
                clear out get
                go_simp
                exact hK _ _ rfl (Below.refl _ _) (fun h => by cases h)
              · intro a x K out get hb hK
                rw [if_pos (wanted_none rfl)]
                obtain ⟨y27, hy27, rfl⟩ := get 0 _ _ rfl rfl (by kernel_rfl)
                obtain ⟨y28, hy28, rfl⟩ := get 1 _ _ rfl rfl (by kernel_rfl)
                clear out get
                go_simp
                refine (K2.out 4 (by decide) x hb).mono ?_
                rintro e w2 ⟨v2, rfl, hv2, hb2⟩
                exact hK _ _ (ReV.of (e := .seq ea eb) hv2) hb2 (fun h => by cases h)
              · intro a x K out get hb hK
                rw [if_pos (wanted_none rfl)]
                have o2 : a.tmps[2]? = some (.pointer (some ⟨w.heap.size, 0, none⟩)) := out 2 (by kernel_rfl)
                obtain ⟨c0, c1, c2, c3, c4, c5, -⟩ := CA.out x hb
                clear out get
                go_simp
                exact hK _ _ rfl (Below.refl _ _) (fun h => by cases h)
              · intro a x K out get hb hK
                rw [if_pos (wanted_none rfl)]
                have o3 : a.tmps[3]? = some (.pointer (some ⟨w.heap.size + 1, 0, none⟩)) := out 3 (by kernel_rfl)
                obtain ⟨c0, c1, c2, c3, c4, c5, -⟩ := CB.out x hb
                clear out get
                go_simp
                exact hK _ _ rfl (Below.refl _ _) (fun h => by cases h)
              · intro a x K out get hb hK
                rw [if_pos (wanted_none rfl)]
                obtain ⟨y30, hy30, rfl⟩ := get 3 _ _ rfl rfl (by kernel_rfl)
                obtain ⟨y31, hy31, rfl⟩ := get 4 _ _ rfl rfl (by kernel_rfl)
                clear out get
                go_simp
                refine (K2.out 5 (by decide) x hb).mono ?_
                rintro e w2 ⟨v2, rfl, hv2, hb2⟩
                exact hK _ _ (ReV.of (e := .alt ea eb) hv2) hb2 (fun h => by cases h)
              · intro a x K out get hb hK
                rw [if_pos (wanted_none rfl)]
                have o2 : a.tmps[2]? = some (.pointer (some ⟨w.heap.size, 0, none⟩)) := out 2 (by kernel_rfl)
                obtain ⟨c0, c1, c2, c3, c4, c5, -⟩ := CA.out x hb
                clear out get
                go_simp
                exact hK _ _ rfl (Below.refl _ _) (fun h => by cases h)
              · intro a x K out get hb hK
                rw [if_pos (wanted_none rfl)]
                obtain ⟨y33, hy33, rfl⟩ := get 6 _ _ rfl rfl (by kernel_rfl)
                clear out get
                go_simp
                refine (K1.out x hb).mono ?_
                rintro e w2 ⟨v2, rfl, hv2, hb2⟩
                exact hK _ _ (ReV.of (e := .star ea) hv2) hb2 (fun h => by cases h)
              · intro a x K out get hb hK
                rw [if_pos (wanted_none rfl)]
                clear out get
                go_simp
                exact hK _ _ ⟨_, rfl, hb.size, by simp, blk_new x _⟩ (bel_al _ _) (fun _ => rfl)
              · intro a x K out get hb hK
                rw [if_pos (wanted_none rfl)]
                clear out get
                go_simp
                exact hK _ _ ⟨_, rfl, hb.size, by simp, blk_new x _⟩ (bel_al _ _) (fun _ => rfl)
              · intro a x K out get hb hK
                rw [if_pos (wanted_none rfl)]
                clear out get
                go_simp
                exact hK _ _ ⟨_, rfl, hb.size, by simp, blk_new x _⟩ (bel_al _ _) (fun _ => rfl)
            · refine ao_finT (isD := fun s => (decide (27 ≤ s) && decide (s ≤ 34)) || (decide (5 ≤ s) && decide (s ≤ 7))) (by kernel_rfl) ?_
              intro f x hv hne hb
              obtain ⟨g5, e5, l5, lt5, z5⟩ := hv 8 _ _ (by decide) rfl rfl
              obtain ⟨g6, e6, l6, lt6, z6⟩ := hv 9 _ _ (by decide) rfl rfl
              obtain ⟨g7, e7, l7, lt7, z7⟩ := hv 10 _ _ (by decide) rfl rfl
              obtain ⟨p0, p1, p2, p3, p4, pl, pn, pc, e29, r29⟩ := hv 2 _ _ (by decide) rfl rfl
              obtain ⟨q0, q1, q2, q3, q4, ql, qn, qc, e32, r32⟩ := hv 5 _ _ (by decide) rfl rfl
              obtain ⟨s0, s1, s2, s3, s4, sl, sn, sc, e34, r34⟩ := hv 7 _ _ (by decide) rfl rfl
              have n56 := hne 8 9 _ _ _ _ (by decide) (by decide) (by decide) rfl rfl rfl rfl rfl rfl
              have n57 := hne 8 10 _ _ _ _ (by decide) (by decide) (by decide) rfl rfl rfl rfl rfl rfl
              have n67 := hne 9 10 _ _ _ _ (by decide) (by decide) (by decide) rfl rfl rfl rfl rfl rfl
              rw [e5, e6] at n56
              rw [e5, e7] at n57
              rw [e6, e7] at n67
              have m56 : g5 ≠ g6 := fun e => n56 (by rw [e])
              have m57 : g5 ≠ g7 := fun e => n57 (by rw [e])
              have m67 : g6 ≠ g7 := fun e => n67 (by rw [e])
              clear hv hne n56 n57 n67
              have HT := Lib.hid (tw_of m56 m57 m67 l5 l6 l7 z5 z6 z7 r29 r32 r34 hb)
              unfold putW at HT
              obtain ⟨a0, a1, a2, a3, a4, a5, b0, b1, b2, b3, b4, b5⟩ := cellsR z5
              obtain ⟨c0, c1, c2, c3, c4, c5, d0, d1, d2, d3, d4, d5⟩ := cellsR z6
              obtain ⟨i0, i1, i2, i3, i4, i5, j0, j1, j2, j3, j4, j5⟩ := cellsR z7
              have m65 := Ne.symm m56
              have m75 := Ne.symm m57
              have m76 := Ne.symm m67
              clear l5 l6 l7 lt5 lt6 lt7 z5 z6 z7 r29 r32 r34 hb
              simp only [frm, List.drop_succ_cons, List.drop_zero]
              simp
              rw [e5, e6, e7, e29, e32, e34]
              clear e5 e6 e7 e29 e32 e34
              generalize f 27 = u27 at *
              generalize f 28 = u28 at *
              generalize f 30 = u30 at *
              generalize f 31 = u31 at *
              generalize f 33 = u33 at *
              go_wp2_with fail
              go_meet
              exact HT.out
          case rest =>
            obtain ⟨g5, g6, g7, rfl, rfl, rfl, hv5, hv6, hv7, hbc⟩ := hcut
            obtain ⟨W2, hW2⟩ : ∃ x, x = wc := ⟨_, rfl⟩
            subst hW2
            obtain ⟨p0, p1, p2, p3, p4, pl, pn, pc, b5, r5⟩ := hv5
            obtain ⟨q0, q1, q2, q3, q4, ql, qn, qc, b6, r6⟩ := hv6
            obtain ⟨s0, s1, s2, s3, s4, sl, sn, sc, b7, r7⟩ := hv7
            have BB := Lib.hid (B.out.go hbc).2.2
            have C5 := Lib.hid fun x (hx : Below W2.heap.size W2 x) => cellsR ((hx.block _ (Array.getElem?_eq_some_iff.1 b5).1).trans b5)
            have C6 := Lib.hid fun x (hx : Below W2.heap.size W2 x) => cellsR ((hx.block _ (Array.getElem?_eq_some_iff.1 b6).1).trans b6)
            have C7 := Lib.hid fun x (hx : Below W2.heap.size W2 x) => cellsR ((hx.block _ (Array.getElem?_eq_some_iff.1 b7).1).trans b7)
            replace CA := Lib.hid fun x (hx : Below W2.heap.size W2 x) => CA.out x (hbc.trans (hx.mono hbc.size))
            replace CB := Lib.hid fun x (hx : Below W2.heap.size W2 x) => CB.out x (hbc.trans (hx.mono hbc.size))
            replace EA := Lib.hid fun x (hx : Below W2.heap.size W2 x) => EA.out x (hbc.trans (hx.mono hbc.size))
            replace EB := Lib.hid fun x (hx : Below W2.heap.size W2 x) => EB.out x (hbc.trans (hx.mono hbc.size))
            have RA := Lib.hid fun x (hx : Below W2.heap.size W2 x) => row_new (EA.out x hx)
            have RB := Lib.hid fun x (hx : Below W2.heap.size W2 x) => row_new (EB.out x hx)
            have R5 := Lib.hid fun x (hx : Below W2.heap.size W2 x) => row_new (r5.below hx)
            have R6 := Lib.hid fun x (hx : Below W2.heap.size W2 x) => row_new (r6.below hx)
            have R7 := Lib.hid fun x (hx : Below W2.heap.size W2 x) => row_new (r7.below hx)
            have w5 : (Ex.seq ea eb).Wf := ⟨wa, wb⟩
            have w6 : (Ex.alt ea eb).Wf := ⟨wa, wb⟩
            have w7 : (Ex.star ea).Wf := wa
            have z5 : (Ex.seq ea eb).size ≤ 2000 := by simp only [Ex.size]; omega
            have z6 : (Ex.alt ea eb).size ≤ 2000 := by simp only [Ex.size]; omega
            have z7 : (Ex.star ea).size ≤ 2000 := by simp only [Ex.size]; omega
            have NA := Lib.hid (null_ex wa sa)
            have NB := Lib.hid (null_ex wb sb)
            have N5 := Lib.hid (null_ex w5 z5)
            have N6 := Lib.hid (null_ex w6 z6)
            have N7 := Lib.hid (null_ex w7 z7)
            have OA := Lib.hid (void_ex wa sa)
            have OB := Lib.hid (void_ex wb sb)
            have O5 := Lib.hid (void_ex w5 z5)
            have O6 := Lib.hid (void_ex w6 z6)
            have O7 := Lib.hid (void_ex w7 z7)
            have FAc := Lib.hid fun x (hx : Below W2.heap.size W2 x) => first_ex wa sa _ x (EA.out x hx)
            have FBc := Lib.hid fun x (hx : Below W2.heap.size W2 x) => first_ex wb sb _ x (EB.out x hx)
            have F6 := Lib.hid fun x (hx : Below W2.heap.size W2 x) => first_ex w6 z6 _ x (r6.below hx)
            have F7 := Lib.hid fun x (hx : Below W2.heap.size W2 x) => first_ex w7 z7 _ x (r7.below hx)
            rw [fst_alt ea eb wa wb] at F6
            rw [show (Ex.star ea).fst = ea.fst from rfl] at F7
            rw [show (Ex.seq ea eb).nul = (ea.nul && eb.nul) from rfl] at N5
            rw [show (Ex.alt ea eb).nul = (ea.nul || eb.nul) from rfl] at N6
            rw [show (Ex.star ea).nul = true from rfl] at N7
            rw [show (!(Ex.seq ea eb).fit) = (!ea.fit || !eb.fit) from by simp only [Ex.fit]; cases ea.fit <;> cases eb.fit <;> rfl] at O5
            rw [show (!(Ex.alt ea eb).fit) = (!ea.fit && !eb.fit) from by simp only [Ex.fit]; cases ea.fit <;> cases eb.fit <;> rfl] at O6
            rw [show (!(Ex.star ea).fit) = false from rfl] at O7
            have oka := fst_ok ea wa
            have okb := fst_ok eb wb
            have KJ := Lib.hid fun (g : Nat) (cap : Nat) (W : World) (h : SetsAt W (some ⟨g, 0, none⟩) [ea.fst, eb.fst]) => join_any (some ⟨g, 0, none⟩) [ea.fst, eb.fst] cap W h
            rw [join_two] at KJ
            rw [show [ea.fst, eb.fst].length = 2 from rfl] at KJ
            have HS := Lib.hid fun (W : World) (g : Nat) (h : W.heap[g]? = some (.cells #[.int .u64 ea.fst.a, .int .u64 ea.fst.b, .int .u64 ea.fst.c, .int .u64 ea.fst.d, .int .u64 eb.fst.a, .int .u64 eb.fst.b, .int .u64 eb.fst.c, .int .u64 eb.fst.d] 28 (0, 0))) => nsets_two oka okb h
            have eqJ := Lib.hid (eqW_yes (ea.fst.join eb.fst))
            have eqA := Lib.hid (eqW_yes ea.fst)
            clear hbc b5 b6 b7 r5 r6 r7 w5 w6 w7 z5 z6 z7 wa wb sa sb za zb oka okb B HA HB K1 K2 EA EB
            generalize ea.fst.join eb.fst = j at *
            generalize ea.fst = fa at *
            generalize eb.fst = fb at *
            generalize ea.nul = na at *
            generalize eb.nul = nb at *
            generalize (!ea.fit) = va at *
            generalize (!eb.fit) = vb at *
            obtain ⟨fa0, fa1, fa2, fa3⟩ := fa
            obtain ⟨fb0, fb1, fb2, fb3⟩ := fb
            obtain ⟨j0, j1, j2, j3⟩ := j
            unfold Ws.v at KJ FAc FBc F6 F7 eqJ eqA
            simp only at KJ FAc FBc F6 F7 eqJ eqA HS
            go_wp2_with fail
            refine wp_region_order (fun i => ([SP.eq (.agg #[.int .u8 x0, .int .u64 x1, .int .u64 x2, .int .u64 x3, .int .u64 x4, .slice xl xn xc]), SP.row ea.rx, SP.eq (.bool (na)), SP.eq (.agg #[.int .u8 y0, .int .u64 y1, .int .u64 y2, .int .u64 y3, .int .u64 y4, .slice yl yn yc]), SP.row eb.rx, SP.eq (.bool (nb)), SP.eq (.bool (na)), SP.eq (.bool (nb))] : List SP).getD i SP.free) (by kernel_rfl) (by kernel_rfl) ⟨?_, ?_, ?_, ?_, ?_, ?_, ?_, ?_, trivial⟩ ?_
            · intro a x K out get hb hK
              rw [if_pos (wanted_none rfl)]
              have o2 : a.tmps[2]? = some (.pointer (some ⟨w.heap.size, 0, none⟩)) := out 2 (by kernel_rfl)
              obtain ⟨c0, c1, c2, c3, c4, c5, -⟩ := CA.out x hb
              clear out get
              go_simp
              exact hK _ _ rfl (Below.refl _ _)
            · intro a x K out get hb hK
              rw [if_pos (wanted_none rfl)]
              obtain ⟨y35, hy35, rfl⟩ := get 0 _ _ rfl rfl (by kernel_rfl)
              clear out get
              go_simp
              exact hK _ _ ⟨_, rfl, RA.out x hb⟩ (bel_al _ _)
            · intro a x K out get hb hK
              rw [if_pos (wanted_none rfl)]
              obtain ⟨y36, hy36, ⟨g36, rfl, hrow36⟩⟩ := get 1 _ _ rfl rfl (by kernel_rfl)
              clear out get
              go_simp
              refine (NA.out _ _ hrow36).mono ?_
              rintro e w2 ⟨rfl, hb2⟩
              exact hK _ _ rfl hb2
            · intro a x K out get hb hK
              rw [if_pos (wanted_none rfl)]
              have o3 : a.tmps[3]? = some (.pointer (some ⟨w.heap.size + 1, 0, none⟩)) := out 3 (by kernel_rfl)
              obtain ⟨c0, c1, c2, c3, c4, c5, -⟩ := CB.out x hb
              clear out get
              go_simp
              exact hK _ _ rfl (Below.refl _ _)
            · intro a x K out get hb hK
              rw [if_pos (wanted_none rfl)]
              obtain ⟨y38, hy38, rfl⟩ := get 3 _ _ rfl rfl (by kernel_rfl)
              clear out get
              go_simp
              exact hK _ _ ⟨_, rfl, RB.out x hb⟩ (bel_al _ _)
            · intro a x K out get hb hK
              rw [if_pos (wanted_none rfl)]
              obtain ⟨y39, hy39, ⟨g39, rfl, hrow39⟩⟩ := get 4 _ _ rfl rfl (by kernel_rfl)
              clear out get
              go_simp
              refine (NB.out _ _ hrow39).mono ?_
              rintro e w2 ⟨rfl, hb2⟩
              exact hK _ _ rfl hb2
            · intro a x K out get hb hK
              rw [if_pos (wanted_none rfl)]
              obtain ⟨y37, hy37, rfl⟩ := get 2 _ _ rfl rfl (by kernel_rfl)
              clear out get
              go_simp
              exact hK _ _ rfl (Below.refl _ _)
            · intro a x K out get hb hK
              rw [if_pos (wanted_none rfl)]
              obtain ⟨y40, hy40, rfl⟩ := get 5 _ _ rfl rfl (by kernel_rfl)
              clear out get
              go_simp
              exact hK _ _ rfl (Below.refl _ _)
            refine ao_fin (isD := fun s => (decide (35 ≤ s) && decide (s ≤ 40)) || (decide (8 ≤ s) && decide (s ≤ 9))) (by kernel_rfl) ?_
            intro f W3 hv hb3
            have f8 : f 8 = .bool na := hv 6 _ _ rfl rfl
            have f9 : f 9 = .bool nb := hv 7 _ _ rfl rfl
            clear hv
            simp only [frm]
            simp
            rw [f8, f9]
            generalize f 35 = u35 at *
            generalize f 36 = u36 at *
            generalize f 37 = u37 at *
            generalize f 38 = u38 at *
            generalize f 39 = u39 at *
            generalize f 40 = u40 at *
            clear f8 f9 f
            replace CA := Lib.hid fun x (hx : Below W3.heap.size W3 x) => CA.out x (hb3.trans (hx.mono hb3.size))
            replace CB := Lib.hid fun x (hx : Below W3.heap.size W3 x) => CB.out x (hb3.trans (hx.mono hb3.size))
            replace C5 := Lib.hid fun x (hx : Below W3.heap.size W3 x) => C5.out x (hb3.trans (hx.mono hb3.size))
            replace C6 := Lib.hid fun x (hx : Below W3.heap.size W3 x) => C6.out x (hb3.trans (hx.mono hb3.size))
            replace C7 := Lib.hid fun x (hx : Below W3.heap.size W3 x) => C7.out x (hb3.trans (hx.mono hb3.size))
            replace RA := Lib.hid fun x (hx : Below W3.heap.size W3 x) => RA.out x (hb3.trans (hx.mono hb3.size))
            replace RB := Lib.hid fun x (hx : Below W3.heap.size W3 x) => RB.out x (hb3.trans (hx.mono hb3.size))
            replace R5 := Lib.hid fun x (hx : Below W3.heap.size W3 x) => R5.out x (hb3.trans (hx.mono hb3.size))
            replace R6 := Lib.hid fun x (hx : Below W3.heap.size W3 x) => R6.out x (hb3.trans (hx.mono hb3.size))
            replace R7 := Lib.hid fun x (hx : Below W3.heap.size W3 x) => R7.out x (hb3.trans (hx.mono hb3.size))
            replace FAc := Lib.hid fun x (hx : Below W3.heap.size W3 x) => FAc.out x (hb3.trans (hx.mono hb3.size))
            replace FBc := Lib.hid fun x (hx : Below W3.heap.size W3 x) => FBc.out x (hb3.trans (hx.mono hb3.size))
            replace F6 := Lib.hid fun x (hx : Below W3.heap.size W3 x) => F6.out x (hb3.trans (hx.mono hb3.size))
            replace F7 := Lib.hid fun x (hx : Below W3.heap.size W3 x) => F7.out x (hb3.trans (hx.mono hb3.size))
            replace BB := Lib.hid (BB.out.trans (hb3.mono BB.out.size))
            go_wp2_with fail
            refine wp_region_order (fun i => ([SP.eq (.agg #[.int .u8 p0, .int .u64 p1, .int .u64 p2, .int .u64 p3, .int .u64 p4, .slice pl pn pc]), SP.row (Ex.seq ea eb).rx, SP.eq (.bool (na && nb)), SP.eq (.bool (na)), SP.eq (.bool (na)), SP.cond (na) (SP.eq (.bool (nb))), SP.eq (.bool (na && nb)), SP.eq (.bool (false)), SP.eq (.bool (false)), SP.eq (.agg #[.int .u8 q0, .int .u64 q1, .int .u64 q2, .int .u64 q3, .int .u64 q4, .slice ql qn qc]), SP.row (Ex.alt ea eb).rx, SP.eq (.bool (na || nb)), SP.eq (.bool (na)), SP.eq (.bool (na)), SP.cond (!na) (SP.eq (.bool (nb))), SP.eq (.bool (na || nb)), SP.eq (.bool (false)), SP.eq (.bool (false)), SP.eq (.bool (false)), SP.eq (.agg #[.int .u8 s0, .int .u64 s1, .int .u64 s2, .int .u64 s3, .int .u64 s4, .slice sl sn sc]), SP.row (Ex.star ea).rx, SP.eq (.bool (true)), SP.eq (.bool (false)), SP.eq (.bool (false)), SP.eq (.bool (false)), SP.eq (.agg #[.int .u8 p0, .int .u64 p1, .int .u64 p2, .int .u64 p3, .int .u64 p4, .slice pl pn pc]), SP.row (Ex.seq ea eb).rx, SP.eq (.bool (va || vb)), SP.eq (.agg #[.int .u8 x0, .int .u64 x1, .int .u64 x2, .int .u64 x3, .int .u64 x4, .slice xl xn xc]), SP.row ea.rx, SP.eq (.bool (va)), SP.eq (.bool (va)), SP.cond (!va) (SP.eq (.agg #[.int .u8 y0, .int .u64 y1, .int .u64 y2, .int .u64 y3, .int .u64 y4, .slice yl yn yc])), SP.cond (!va) (SP.row eb.rx), SP.cond (!va) (SP.eq (.bool (vb))), SP.eq (.bool (va || vb)), SP.eq (.bool (false)), SP.eq (.bool (false)), SP.eq (.bool (false)), SP.eq (.agg #[.int .u8 q0, .int .u64 q1, .int .u64 q2, .int .u64 q3, .int .u64 q4, .slice ql qn qc]), SP.row (Ex.alt ea eb).rx, SP.eq (.bool (va && vb)), SP.eq (.agg #[.int .u8 x0, .int .u64 x1, .int .u64 x2, .int .u64 x3, .int .u64 x4, .slice xl xn xc]), SP.row ea.rx, SP.eq (.bool (va)), SP.eq (.bool (va)), SP.cond (va) (SP.eq (.agg #[.int .u8 y0, .int .u64 y1, .int .u64 y2, .int .u64 y3, .int .u64 y4, .slice yl yn yc])), SP.cond (va) (SP.row eb.rx), SP.cond (va) (SP.eq (.bool (vb))), SP.eq (.bool (va && vb)), SP.eq (.bool (false)), SP.eq (.bool (false)), SP.eq (.bool (false)), SP.eq (.agg #[.int .u8 s0, .int .u64 s1, .int .u64 s2, .int .u64 s3, .int .u64 s4, .slice sl sn sc]), SP.row (Ex.star ea).rx, SP.eq (.bool (false)), SP.eq (.bool (false))] : List SP).getD i SP.free) (by kernel_rfl) (by kernel_rfl) ⟨?_, ?_, ?_, ?_, ?_, ?_, ?_, ?_, ?_, ?_, ?_, ?_, ?_, ?_, ?_, ?_, ?_, ?_, ?_, ?_, ?_, ?_, ?_, ?_, ?_, ?_, ?_, ?_, ?_, ?_, ?_, ?_, ?_, ?_, ?_, ?_, ?_, ?_, ?_, ?_, ?_, ?_, ?_, ?_, ?_, ?_, ?_, ?_, ?_, ?_, ?_, ?_, ?_, ?_, ?_, ?_, ?_, trivial⟩ ?_
            · intro a x K out get hb hK
              rw [if_pos (wanted_none rfl)]
              have o5 : a.tmps[5]? = some (.pointer (some ⟨g5, 0, none⟩)) := out 5 (by kernel_rfl)
              obtain ⟨c0, c1, c2, c3, c4, c5, -⟩ := C5.out x hb
              clear out get
              go_simp
              exact hK _ _ rfl (Below.refl _ _)
            · intro a x K out get hb hK
              rw [if_pos (wanted_none rfl)]
              obtain ⟨y41, hy41, rfl⟩ := get 0 _ _ rfl rfl (by kernel_rfl)
              clear out get
              go_simp
              exact hK _ _ ⟨_, rfl, R5.out x hb⟩ (bel_al _ _)
            · intro a x K out get hb hK
              rw [if_pos (wanted_none rfl)]
              obtain ⟨y42, hy42, ⟨g42, rfl, hrow42⟩⟩ := get 1 _ _ rfl rfl (by kernel_rfl)
              clear out get
              go_simp
              refine (N5.out _ _ hrow42).mono ?_
              rintro e w2 ⟨rfl, hb2⟩
              exact hK _ _ rfl hb2
            · intro a x K out get hb hK
              rw [if_pos (wanted_none rfl)]
              have o8 : a.tmps[8]? = some (.bool na) := out 8 (by kernel_rfl)
              clear out get
              go_simp
              exact hK _ _ rfl (Below.refl _ _)
            · intro a x K out get hb hK
              rw [if_pos (wanted_none rfl)]
              obtain ⟨y44, hy44, rfl⟩ := get 3 _ _ rfl rfl (by kernel_rfl)
              clear out get
              go_simp
              exact hK _ _ rfl (Below.refl _ _)
            · intro a x K out get hb hK
              cases na with
              | true =>
                obtain ⟨yg, hyg, rfl⟩ := get 4 _ _ rfl rfl (by kernel_rfl)
                rw [if_pos (by rw [wanted_bool rfl rfl rfl hyg]; rfl)]
                clear hyg
                have o9 : a.tmps[9]? = some (.bool nb) := out 9 (by kernel_rfl)
                clear out get
                go_simp
                exact hK _ _ (fun _ => rfl) (Below.refl _ _)
              | false =>
                obtain ⟨yg, hyg, rfl⟩ := get 4 _ _ rfl rfl (by kernel_rfl)
                rw [if_neg (by rw [wanted_bool rfl rfl rfl hyg]; decide)]
                exact hK _ _ (fun h => by cases h) (Below.refl _ _)
            · intro a x K out get hb hK
              rw [if_pos (wanted_none rfl)]
              cases na with
              | true =>
                obtain ⟨y45, hy45, rfl⟩ := get 4 _ _ rfl rfl (by kernel_rfl)
                obtain ⟨y46, hy46, hp46⟩ := get 5 _ _ rfl rfl (by kernel_rfl)
                obtain rfl := hp46 rfl
                clear out get
                go_simp
                exact hK _ _ rfl (Below.refl _ _)
              | false =>
                obtain ⟨y45, hy45, rfl⟩ := get 4 _ _ rfl rfl (by kernel_rfl)
                obtain ⟨y46, hy46, -⟩ := get 5 _ _ rfl rfl (by kernel_rfl)
                clear out get
                go_simp
                exact hK _ _ rfl (Below.refl _ _)
            · intro a x K out get hb hK
              rw [if_pos (wanted_none rfl)]
              obtain ⟨y43, hy43, rfl⟩ := get 2 _ _ rfl rfl (by kernel_rfl)
              obtain ⟨y47, hy47, rfl⟩ := get 6 _ _ rfl rfl (by kernel_rfl)
              clear out get
              go_simp
              exact hK _ _ rfl (Below.refl _ _)
            · intro a x K out get hb hK
              rw [if_pos (wanted_none rfl)]
              obtain ⟨y48, hy48, rfl⟩ := get 7 _ _ rfl rfl (by kernel_rfl)
              clear out get
              go_simp
              exact hK _ _ rfl (Below.refl _ _)
            · intro a x K out get hb hK
              obtain ⟨yg, hyg, rfl⟩ := get 8 _ _ rfl rfl (by kernel_rfl)
              rw [if_pos (by rw [wanted_bool rfl rfl rfl hyg]; rfl)]
              clear hyg
              have o6 : a.tmps[6]? = some (.pointer (some ⟨g6, 0, none⟩)) := out 6 (by kernel_rfl)
              obtain ⟨c0, c1, c2, c3, c4, c5, -⟩ := C6.out x hb
              clear out get
              go_simp
              exact hK _ _ rfl (Below.refl _ _)
            · intro a x K out get hb hK
              obtain ⟨yg, hyg, rfl⟩ := get 8 _ _ rfl rfl (by kernel_rfl)
              rw [if_pos (by rw [wanted_bool rfl rfl rfl hyg]; rfl)]
              clear hyg
              obtain ⟨y50, hy50, rfl⟩ := get 9 _ _ rfl rfl (by kernel_rfl)
              clear out get
              go_simp
              exact hK _ _ ⟨_, rfl, R6.out x hb⟩ (bel_al _ _)
            · intro a x K out get hb hK
              obtain ⟨yg, hyg, rfl⟩ := get 8 _ _ rfl rfl (by kernel_rfl)
              rw [if_pos (by rw [wanted_bool rfl rfl rfl hyg]; rfl)]
              clear hyg
              obtain ⟨y51, hy51, ⟨g51, rfl, hrow51⟩⟩ := get 10 _ _ rfl rfl (by kernel_rfl)
              clear out get
              go_simp
              refine (N6.out _ _ hrow51).mono ?_
              rintro e w2 ⟨rfl, hb2⟩
              exact hK _ _ rfl hb2
            · intro a x K out get hb hK
              obtain ⟨yg, hyg, rfl⟩ := get 8 _ _ rfl rfl (by kernel_rfl)
              rw [if_pos (by rw [wanted_bool rfl rfl rfl hyg]; rfl)]
              clear hyg
              have o8 : a.tmps[8]? = some (.bool na) := out 8 (by kernel_rfl)
              clear out get
              go_simp
              exact hK _ _ rfl (Below.refl _ _)
            · intro a x K out get hb hK
              obtain ⟨yg, hyg, rfl⟩ := get 8 _ _ rfl rfl (by kernel_rfl)
              rw [if_pos (by rw [wanted_bool rfl rfl rfl hyg]; rfl)]
              clear hyg
              obtain ⟨y53, hy53, rfl⟩ := get 12 _ _ rfl rfl (by kernel_rfl)
              clear out get
              go_simp
              exact hK _ _ rfl (Below.refl _ _)
            · intro a x K out get hb hK
              cases na with
              | true =>
                obtain ⟨yg, hyg, rfl⟩ := get 13 _ _ rfl rfl (by kernel_rfl)
                rw [if_neg (by rw [wanted_bool rfl rfl rfl hyg]; decide)]
                exact hK _ _ (fun h => by cases h) (Below.refl _ _)
              | false =>
                obtain ⟨yg, hyg, rfl⟩ := get 13 _ _ rfl rfl (by kernel_rfl)
                rw [if_pos (by rw [wanted_bool rfl rfl rfl hyg]; rfl)]
                clear hyg
                have o9 : a.tmps[9]? = some (.bool nb) := out 9 (by kernel_rfl)
                clear out get
                go_simp
                exact hK _ _ (fun _ => rfl) (Below.refl _ _)
            · intro a x K out get hb hK
              obtain ⟨yg, hyg, rfl⟩ := get 8 _ _ rfl rfl (by kernel_rfl)
              rw [if_pos (by rw [wanted_bool rfl rfl rfl hyg]; rfl)]
              clear hyg
              cases na with
              | true =>
                obtain ⟨y54, hy54, rfl⟩ := get 13 _ _ rfl rfl (by kernel_rfl)
                obtain ⟨y55, hy55, -⟩ := get 14 _ _ rfl rfl (by kernel_rfl)
                clear out get
                go_simp
                exact hK _ _ rfl (Below.refl _ _)
              | false =>
                obtain ⟨y54, hy54, rfl⟩ := get 13 _ _ rfl rfl (by kernel_rfl)
                obtain ⟨y55, hy55, hp55⟩ := get 14 _ _ rfl rfl (by kernel_rfl)
                obtain rfl := hp55 rfl
                clear out get
                go_simp
                exact hK _ _ rfl (Below.refl _ _)
            · intro a x K out get hb hK
              obtain ⟨yg, hyg, rfl⟩ := get 8 _ _ rfl rfl (by kernel_rfl)
              rw [if_pos (by rw [wanted_bool rfl rfl rfl hyg]; rfl)]
              clear hyg
              obtain ⟨y52, hy52, rfl⟩ := get 11 _ _ rfl rfl (by kernel_rfl)
              obtain ⟨y56, hy56, rfl⟩ := get 15 _ _ rfl rfl (by kernel_rfl)
              clear out get
              go_simp
              exact hK _ _ rfl (Below.refl _ _)
            · intro a x K out get hb hK
              rw [if_pos (wanted_none rfl)]
              obtain ⟨y49, hy49, rfl⟩ := get 8 _ _ rfl rfl (by kernel_rfl)
              obtain ⟨y57, hy57, rfl⟩ := get 16 _ _ rfl rfl (by kernel_rfl)
              clear out get
              go_simp
              exact hK _ _ rfl (Below.refl _ _)
            · intro a x K out get hb hK
              rw [if_pos (wanted_none rfl)]
              obtain ⟨y58, hy58, rfl⟩ := get 17 _ _ rfl rfl (by kernel_rfl)
              clear out get
              go_simp
              exact hK _ _ rfl (Below.refl _ _)
            · intro a x K out get hb hK
              obtain ⟨yg, hyg, rfl⟩ := get 18 _ _ rfl rfl (by kernel_rfl)
              rw [if_pos (by rw [wanted_bool rfl rfl rfl hyg]; rfl)]
              clear hyg
              have o7 : a.tmps[7]? = some (.pointer (some ⟨g7, 0, none⟩)) := out 7 (by kernel_rfl)
              obtain ⟨c0, c1, c2, c3, c4, c5, -⟩ := C7.out x hb
              clear out get
              go_simp
              exact hK _ _ rfl (Below.refl _ _)
            · intro a x K out get hb hK
              obtain ⟨yg, hyg, rfl⟩ := get 18 _ _ rfl rfl (by kernel_rfl)
              rw [if_pos (by rw [wanted_bool rfl rfl rfl hyg]; rfl)]
              clear hyg
              obtain ⟨y60, hy60, rfl⟩ := get 19 _ _ rfl rfl (by kernel_rfl)
              clear out get
              go_simp
              exact hK _ _ ⟨_, rfl, R7.out x hb⟩ (bel_al _ _)
            · intro a x K out get hb hK
              obtain ⟨yg, hyg, rfl⟩ := get 18 _ _ rfl rfl (by kernel_rfl)
              rw [if_pos (by rw [wanted_bool rfl rfl rfl hyg]; rfl)]
              clear hyg
              obtain ⟨y61, hy61, ⟨g61, rfl, hrow61⟩⟩ := get 20 _ _ rfl rfl (by kernel_rfl)
              clear out get
              go_simp
              refine (N7.out _ _ hrow61).mono ?_
              rintro e w2 ⟨rfl, hb2⟩
              exact hK _ _ rfl hb2
            · intro a x K out get hb hK
              obtain ⟨yg, hyg, rfl⟩ := get 18 _ _ rfl rfl (by kernel_rfl)
              rw [if_pos (by rw [wanted_bool rfl rfl rfl hyg]; rfl)]
              clear hyg
              obtain ⟨y62, hy62, rfl⟩ := get 21 _ _ rfl rfl (by kernel_rfl)
              clear out get
              go_simp
              exact hK _ _ rfl (Below.refl _ _)
            · intro a x K out get hb hK
              rw [if_pos (wanted_none rfl)]
              obtain ⟨y59, hy59, rfl⟩ := get 18 _ _ rfl rfl (by kernel_rfl)
              obtain ⟨y63, hy63, rfl⟩ := get 22 _ _ rfl rfl (by kernel_rfl)
              clear out get
              go_simp
              exact hK _ _ rfl (Below.refl _ _)
            · intro a x K out get hb hK
              rw [if_pos (wanted_none rfl)]
              obtain ⟨y64, hy64, rfl⟩ := get 23 _ _ rfl rfl (by kernel_rfl)
              clear out get
              go_simp
              exact hK _ _ rfl (Below.refl _ _)
            · intro a x K out get hb hK
              obtain ⟨yg, hyg, rfl⟩ := get 24 _ _ rfl rfl (by kernel_rfl)
              rw [if_pos (by rw [wanted_bool rfl rfl rfl hyg]; rfl)]
              clear hyg
              have o5 : a.tmps[5]? = some (.pointer (some ⟨g5, 0, none⟩)) := out 5 (by kernel_rfl)
              obtain ⟨c0, c1, c2, c3, c4, c5, -⟩ := C5.out x hb
              clear out get
              go_simp
              exact hK _ _ rfl (Below.refl _ _)
            · intro a x K out get hb hK
              obtain ⟨yg, hyg, rfl⟩ := get 24 _ _ rfl rfl (by kernel_rfl)
              rw [if_pos (by rw [wanted_bool rfl rfl rfl hyg]; rfl)]
              clear hyg
              obtain ⟨y66, hy66, rfl⟩ := get 25 _ _ rfl rfl (by kernel_rfl)
              clear out get
              go_simp
              exact hK _ _ ⟨_, rfl, R5.out x hb⟩ (bel_al _ _)
            · intro a x K out get hb hK
              obtain ⟨yg, hyg, rfl⟩ := get 24 _ _ rfl rfl (by kernel_rfl)
              rw [if_pos (by rw [wanted_bool rfl rfl rfl hyg]; rfl)]
              clear hyg
              obtain ⟨y67, hy67, ⟨g67, rfl, hrow67⟩⟩ := get 26 _ _ rfl rfl (by kernel_rfl)
              clear out get
              go_simp
              refine (O5.out _ _ hrow67).mono ?_
              rintro e w2 ⟨rfl, hb2⟩
              exact hK _ _ rfl hb2
            · intro a x K out get hb hK
              obtain ⟨yg, hyg, rfl⟩ := get 24 _ _ rfl rfl (by kernel_rfl)
              rw [if_pos (by rw [wanted_bool rfl rfl rfl hyg]; rfl)]
              clear hyg
              have o2 : a.tmps[2]? = some (.pointer (some ⟨w.heap.size, 0, none⟩)) := out 2 (by kernel_rfl)
              obtain ⟨c0, c1, c2, c3, c4, c5, -⟩ := CA.out x hb
              clear out get
              go_simp
              exact hK _ _ rfl (Below.refl _ _)
            · intro a x K out get hb hK
              obtain ⟨yg, hyg, rfl⟩ := get 24 _ _ rfl rfl (by kernel_rfl)
              rw [if_pos (by rw [wanted_bool rfl rfl rfl hyg]; rfl)]
              clear hyg
              obtain ⟨y69, hy69, rfl⟩ := get 28 _ _ rfl rfl (by kernel_rfl)
              clear out get
              go_simp
              exact hK _ _ ⟨_, rfl, RA.out x hb⟩ (bel_al _ _)
            · intro a x K out get hb hK
              obtain ⟨yg, hyg, rfl⟩ := get 24 _ _ rfl rfl (by kernel_rfl)
              rw [if_pos (by rw [wanted_bool rfl rfl rfl hyg]; rfl)]
              clear hyg
              obtain ⟨y70, hy70, ⟨g70, rfl, hrow70⟩⟩ := get 29 _ _ rfl rfl (by kernel_rfl)
              clear out get
              go_simp
              refine (OA.out _ _ hrow70).mono ?_
              rintro e w2 ⟨rfl, hb2⟩
              exact hK _ _ rfl hb2
            · intro a x K out get hb hK
              obtain ⟨yg, hyg, rfl⟩ := get 24 _ _ rfl rfl (by kernel_rfl)
              rw [if_pos (by rw [wanted_bool rfl rfl rfl hyg]; rfl)]
              clear hyg
              obtain ⟨y71, hy71, rfl⟩ := get 30 _ _ rfl rfl (by kernel_rfl)
              clear out get
              go_simp
              exact hK _ _ rfl (Below.refl _ _)
            · intro a x K out get hb hK
              cases va with
              | true =>
                obtain ⟨yg, hyg, rfl⟩ := get 31 _ _ rfl rfl (by kernel_rfl)
                rw [if_neg (by rw [wanted_bool rfl rfl rfl hyg]; decide)]
                exact hK _ _ (fun h => by cases h) (Below.refl _ _)
              | false =>
                obtain ⟨yg, hyg, rfl⟩ := get 31 _ _ rfl rfl (by kernel_rfl)
                rw [if_pos (by rw [wanted_bool rfl rfl rfl hyg]; rfl)]
                clear hyg
                have o3 : a.tmps[3]? = some (.pointer (some ⟨w.heap.size + 1, 0, none⟩)) := out 3 (by kernel_rfl)
                obtain ⟨c0, c1, c2, c3, c4, c5, -⟩ := CB.out x hb
                clear out get
                go_simp
                exact hK _ _ (fun _ => rfl) (Below.refl _ _)
            · intro a x K out get hb hK
              cases va with
              | true =>
                obtain ⟨yg, hyg, rfl⟩ := get 31 _ _ rfl rfl (by kernel_rfl)
                rw [if_neg (by rw [wanted_bool rfl rfl rfl hyg]; decide)]
                exact hK _ _ (fun h => by cases h) (Below.refl _ _)
              | false =>
                obtain ⟨yg, hyg, rfl⟩ := get 31 _ _ rfl rfl (by kernel_rfl)
                rw [if_pos (by rw [wanted_bool rfl rfl rfl hyg]; rfl)]
                clear hyg
                obtain ⟨y73, hy73, hp73⟩ := get 32 _ _ rfl rfl (by kernel_rfl)
                obtain rfl := hp73 rfl
                clear out get
                go_simp
                exact hK _ _ (fun _ => ⟨_, rfl, RB.out x hb⟩) (bel_al _ _)
            · intro a x K out get hb hK
              cases va with
              | true =>
                obtain ⟨yg, hyg, rfl⟩ := get 31 _ _ rfl rfl (by kernel_rfl)
                rw [if_neg (by rw [wanted_bool rfl rfl rfl hyg]; decide)]
                exact hK _ _ (fun h => by cases h) (Below.refl _ _)
              | false =>
                obtain ⟨yg, hyg, rfl⟩ := get 31 _ _ rfl rfl (by kernel_rfl)
                rw [if_pos (by rw [wanted_bool rfl rfl rfl hyg]; rfl)]
                clear hyg
                obtain ⟨y74, hy74, hp74⟩ := get 33 _ _ rfl rfl (by kernel_rfl)
                obtain ⟨g74, rfl, hrow74⟩ := hp74 rfl
                clear out get
                go_simp
                refine (OB.out _ _ hrow74).mono ?_
                rintro e w2 ⟨rfl, hb2⟩
                exact hK _ _ (fun _ => rfl) hb2
            · intro a x K out get hb hK
              obtain ⟨yg, hyg, rfl⟩ := get 24 _ _ rfl rfl (by kernel_rfl)
              rw [if_pos (by rw [wanted_bool rfl rfl rfl hyg]; rfl)]
              clear hyg
              cases va with
              | true =>
                obtain ⟨y72, hy72, rfl⟩ := get 31 _ _ rfl rfl (by kernel_rfl)
                obtain ⟨y75, hy75, -⟩ := get 34 _ _ rfl rfl (by kernel_rfl)
                clear out get
                go_simp
                exact hK _ _ rfl (Below.refl _ _)
              | false =>
                obtain ⟨y72, hy72, rfl⟩ := get 31 _ _ rfl rfl (by kernel_rfl)
                obtain ⟨y75, hy75, hp75⟩ := get 34 _ _ rfl rfl (by kernel_rfl)
                obtain rfl := hp75 rfl
                clear out get
                go_simp
                exact hK _ _ rfl (Below.refl _ _)
            · intro a x K out get hb hK
              obtain ⟨yg, hyg, rfl⟩ := get 24 _ _ rfl rfl (by kernel_rfl)
              rw [if_pos (by rw [wanted_bool rfl rfl rfl hyg]; rfl)]
              clear hyg
              obtain ⟨y68, hy68, rfl⟩ := get 27 _ _ rfl rfl (by kernel_rfl)
              obtain ⟨y76, hy76, rfl⟩ := get 35 _ _ rfl rfl (by kernel_rfl)
              clear out get
              go_simp
              exact hK _ _ rfl (Below.refl _ _)
            · intro a x K out get hb hK
              rw [if_pos (wanted_none rfl)]
              obtain ⟨y65, hy65, rfl⟩ := get 24 _ _ rfl rfl (by kernel_rfl)
              obtain ⟨y77, hy77, rfl⟩ := get 36 _ _ rfl rfl (by kernel_rfl)
              clear out get
              go_simp
              exact hK _ _ rfl (Below.refl _ _)
            · intro a x K out get hb hK
              rw [if_pos (wanted_none rfl)]
              obtain ⟨y78, hy78, rfl⟩ := get 37 _ _ rfl rfl (by kernel_rfl)
              clear out get
              go_simp
              exact hK _ _ rfl (Below.refl _ _)
            · intro a x K out get hb hK
              obtain ⟨yg, hyg, rfl⟩ := get 38 _ _ rfl rfl (by kernel_rfl)
              rw [if_pos (by rw [wanted_bool rfl rfl rfl hyg]; rfl)]
              clear hyg
              have o6 : a.tmps[6]? = some (.pointer (some ⟨g6, 0, none⟩)) := out 6 (by kernel_rfl)
              obtain ⟨c0, c1, c2, c3, c4, c5, -⟩ := C6.out x hb
              clear out get
              go_simp
              exact hK _ _ rfl (Below.refl _ _)
            · intro a x K out get hb hK
              obtain ⟨yg, hyg, rfl⟩ := get 38 _ _ rfl rfl (by kernel_rfl)
              rw [if_pos (by rw [wanted_bool rfl rfl rfl hyg]; rfl)]
              clear hyg
              obtain ⟨y80, hy80, rfl⟩ := get 39 _ _ rfl rfl (by kernel_rfl)
              clear out get
              go_simp
              exact hK _ _ ⟨_, rfl, R6.out x hb⟩ (bel_al _ _)
            · intro a x K out get hb hK
              obtain ⟨yg, hyg, rfl⟩ := get 38 _ _ rfl rfl (by kernel_rfl)
              rw [if_pos (by rw [wanted_bool rfl rfl rfl hyg]; rfl)]
              clear hyg
              obtain ⟨y81, hy81, ⟨g81, rfl, hrow81⟩⟩ := get 40 _ _ rfl rfl (by kernel_rfl)
              clear out get
              go_simp
              refine (O6.out _ _ hrow81).mono ?_
              rintro e w2 ⟨rfl, hb2⟩
              exact hK _ _ rfl hb2
            · intro a x K out get hb hK
              obtain ⟨yg, hyg, rfl⟩ := get 38 _ _ rfl rfl (by kernel_rfl)
              rw [if_pos (by rw [wanted_bool rfl rfl rfl hyg]; rfl)]
              clear hyg
              have o2 : a.tmps[2]? = some (.pointer (some ⟨w.heap.size, 0, none⟩)) := out 2 (by kernel_rfl)
              obtain ⟨c0, c1, c2, c3, c4, c5, -⟩ := CA.out x hb
              clear out get
              go_simp
              exact hK _ _ rfl (Below.refl _ _)
            · intro a x K out get hb hK
              obtain ⟨yg, hyg, rfl⟩ := get 38 _ _ rfl rfl (by kernel_rfl)
              rw [if_pos (by rw [wanted_bool rfl rfl rfl hyg]; rfl)]
              clear hyg
              obtain ⟨y83, hy83, rfl⟩ := get 42 _ _ rfl rfl (by kernel_rfl)
              clear out get
              go_simp
              exact hK _ _ ⟨_, rfl, RA.out x hb⟩ (bel_al _ _)
            · intro a x K out get hb hK
              obtain ⟨yg, hyg, rfl⟩ := get 38 _ _ rfl rfl (by kernel_rfl)
              rw [if_pos (by rw [wanted_bool rfl rfl rfl hyg]; rfl)]
              clear hyg
              obtain ⟨y84, hy84, ⟨g84, rfl, hrow84⟩⟩ := get 43 _ _ rfl rfl (by kernel_rfl)
              clear out get
              go_simp
              refine (OA.out _ _ hrow84).mono ?_
              rintro e w2 ⟨rfl, hb2⟩
              exact hK _ _ rfl hb2
            · intro a x K out get hb hK
              obtain ⟨yg, hyg, rfl⟩ := get 38 _ _ rfl rfl (by kernel_rfl)
              rw [if_pos (by rw [wanted_bool rfl rfl rfl hyg]; rfl)]
              clear hyg
              obtain ⟨y85, hy85, rfl⟩ := get 44 _ _ rfl rfl (by kernel_rfl)
              clear out get
              go_simp
              exact hK _ _ rfl (Below.refl _ _)
            · intro a x K out get hb hK
              cases va with
              | true =>
                obtain ⟨yg, hyg, rfl⟩ := get 45 _ _ rfl rfl (by kernel_rfl)
                rw [if_pos (by rw [wanted_bool rfl rfl rfl hyg]; rfl)]
                clear hyg
                have o3 : a.tmps[3]? = some (.pointer (some ⟨w.heap.size + 1, 0, none⟩)) := out 3 (by kernel_rfl)
                obtain ⟨c0, c1, c2, c3, c4, c5, -⟩ := CB.out x hb
                clear out get
                go_simp
                exact hK _ _ (fun _ => rfl) (Below.refl _ _)
              | false =>
                obtain ⟨yg, hyg, rfl⟩ := get 45 _ _ rfl rfl (by kernel_rfl)
                rw [if_neg (by rw [wanted_bool rfl rfl rfl hyg]; decide)]
                exact hK _ _ (fun h => by cases h) (Below.refl _ _)
            · intro a x K out get hb hK
              cases va with
              | true =>
                obtain ⟨yg, hyg, rfl⟩ := get 45 _ _ rfl rfl (by kernel_rfl)
                rw [if_pos (by rw [wanted_bool rfl rfl rfl hyg]; rfl)]
                clear hyg
                obtain ⟨y87, hy87, hp87⟩ := get 46 _ _ rfl rfl (by kernel_rfl)
                obtain rfl := hp87 rfl
                clear out get
                go_simp
                exact hK _ _ (fun _ => ⟨_, rfl, RB.out x hb⟩) (bel_al _ _)
              | false =>
                obtain ⟨yg, hyg, rfl⟩ := get 45 _ _ rfl rfl (by kernel_rfl)
                rw [if_neg (by rw [wanted_bool rfl rfl rfl hyg]; decide)]
                exact hK _ _ (fun h => by cases h) (Below.refl _ _)
            · intro a x K out get hb hK
              cases va with
              | true =>
                obtain ⟨yg, hyg, rfl⟩ := get 45 _ _ rfl rfl (by kernel_rfl)
                rw [if_pos (by rw [wanted_bool rfl rfl rfl hyg]; rfl)]
                clear hyg
                obtain ⟨y88, hy88, hp88⟩ := get 47 _ _ rfl rfl (by kernel_rfl)
                obtain ⟨g88, rfl, hrow88⟩ := hp88 rfl
                clear out get
                go_simp
                refine (OB.out _ _ hrow88).mono ?_
                rintro e w2 ⟨rfl, hb2⟩
                exact hK _ _ (fun _ => rfl) hb2
              | false =>
                obtain ⟨yg, hyg, rfl⟩ := get 45 _ _ rfl rfl (by kernel_rfl)
                rw [if_neg (by rw [wanted_bool rfl rfl rfl hyg]; decide)]
                exact hK _ _ (fun h => by cases h) (Below.refl _ _)
            · intro a x K out get hb hK
              obtain ⟨yg, hyg, rfl⟩ := get 38 _ _ rfl rfl (by kernel_rfl)
              rw [if_pos (by rw [wanted_bool rfl rfl rfl hyg]; rfl)]
              clear hyg
              cases va with
              | true =>
                obtain ⟨y86, hy86, rfl⟩ := get 45 _ _ rfl rfl (by kernel_rfl)
                obtain ⟨y89, hy89, hp89⟩ := get 48 _ _ rfl rfl (by kernel_rfl)
                obtain rfl := hp89 rfl
                clear out get
                go_simp
                exact hK _ _ rfl (Below.refl _ _)
              | false =>
                obtain ⟨y86, hy86, rfl⟩ := get 45 _ _ rfl rfl (by kernel_rfl)
                obtain ⟨y89, hy89, -⟩ := get 48 _ _ rfl rfl (by kernel_rfl)
                clear out get
                go_simp
                exact hK _ _ rfl (Below.refl _ _)
            · intro a x K out get hb hK
              obtain ⟨yg, hyg, rfl⟩ := get 38 _ _ rfl rfl (by kernel_rfl)
              rw [if_pos (by rw [wanted_bool rfl rfl rfl hyg]; rfl)]
              clear hyg
              obtain ⟨y82, hy82, rfl⟩ := get 41 _ _ rfl rfl (by kernel_rfl)
              obtain ⟨y90, hy90, rfl⟩ := get 49 _ _ rfl rfl (by kernel_rfl)
              clear out get
              go_simp
              exact hK _ _ rfl (Below.refl _ _)
            · intro a x K out get hb hK
              rw [if_pos (wanted_none rfl)]
              obtain ⟨y79, hy79, rfl⟩ := get 38 _ _ rfl rfl (by kernel_rfl)
              obtain ⟨y91, hy91, rfl⟩ := get 50 _ _ rfl rfl (by kernel_rfl)
              clear out get
              go_simp
              exact hK _ _ rfl (Below.refl _ _)
            · intro a x K out get hb hK
              rw [if_pos (wanted_none rfl)]
              obtain ⟨y92, hy92, rfl⟩ := get 51 _ _ rfl rfl (by kernel_rfl)
              clear out get
              go_simp
              exact hK _ _ rfl (Below.refl _ _)
            · intro a x K out get hb hK
              obtain ⟨yg, hyg, rfl⟩ := get 52 _ _ rfl rfl (by kernel_rfl)
              rw [if_pos (by rw [wanted_bool rfl rfl rfl hyg]; rfl)]
              clear hyg
              have o7 : a.tmps[7]? = some (.pointer (some ⟨g7, 0, none⟩)) := out 7 (by kernel_rfl)
              obtain ⟨c0, c1, c2, c3, c4, c5, -⟩ := C7.out x hb
              clear out get
              go_simp
              exact hK _ _ rfl (Below.refl _ _)
            · intro a x K out get hb hK
              obtain ⟨yg, hyg, rfl⟩ := get 52 _ _ rfl rfl (by kernel_rfl)
              rw [if_pos (by rw [wanted_bool rfl rfl rfl hyg]; rfl)]
              clear hyg
              obtain ⟨y94, hy94, rfl⟩ := get 53 _ _ rfl rfl (by kernel_rfl)
              clear out get
              go_simp
              exact hK _ _ ⟨_, rfl, R7.out x hb⟩ (bel_al _ _)
            · intro a x K out get hb hK
              obtain ⟨yg, hyg, rfl⟩ := get 52 _ _ rfl rfl (by kernel_rfl)
              rw [if_pos (by rw [wanted_bool rfl rfl rfl hyg]; rfl)]
              clear hyg
              obtain ⟨y95, hy95, ⟨g95, rfl, hrow95⟩⟩ := get 54 _ _ rfl rfl (by kernel_rfl)
              clear out get
              go_simp
              refine (O7.out _ _ hrow95).mono ?_
              rintro e w2 ⟨rfl, hb2⟩
              exact hK _ _ rfl hb2
            · intro a x K out get hb hK
              rw [if_pos (wanted_none rfl)]
              obtain ⟨y93, hy93, rfl⟩ := get 52 _ _ rfl rfl (by kernel_rfl)
              obtain ⟨y96, hy96, rfl⟩ := get 55 _ _ rfl rfl (by kernel_rfl)
              clear out get
              go_simp
              exact hK _ _ rfl (Below.refl _ _)
            refine ao_fin (isD := fun s => decide (41 ≤ s) && decide (s ≤ 97)) (by kernel_rfl) ?_
            intro f W4 hv hb4
            have f97 : f 97 = .bool false := hv 56 _ _ rfl rfl
            clear hv
            simp only [frm]
            simp
            rw [f97]
            generalize f 41 = u41 at *
            generalize f 42 = u42 at *
            generalize f 43 = u43 at *
            generalize f 44 = u44 at *
            generalize f 45 = u45 at *
            generalize f 46 = u46 at *
            generalize f 47 = u47 at *
            generalize f 48 = u48 at *
            generalize f 49 = u49 at *
            generalize f 50 = u50 at *
            generalize f 51 = u51 at *
            generalize f 52 = u52 at *
            generalize f 53 = u53 at *
            generalize f 54 = u54 at *
            generalize f 55 = u55 at *
            generalize f 56 = u56 at *
            generalize f 57 = u57 at *
            generalize f 58 = u58 at *
            generalize f 59 = u59 at *
            generalize f 60 = u60 at *
            generalize f 61 = u61 at *
            generalize f 62 = u62 at *
            generalize f 63 = u63 at *
            generalize f 64 = u64 at *
            generalize f 65 = u65 at *
            generalize f 66 = u66 at *
            generalize f 67 = u67 at *
            generalize f 68 = u68 at *
            generalize f 69 = u69 at *
            generalize f 70 = u70 at *
            generalize f 71 = u71 at *
            generalize f 72 = u72 at *
            generalize f 73 = u73 at *
            generalize f 74 = u74 at *
            generalize f 75 = u75 at *
            generalize f 76 = u76 at *
            generalize f 77 = u77 at *
            generalize f 78 = u78 at *
            generalize f 79 = u79 at *
            generalize f 80 = u80 at *
            generalize f 81 = u81 at *
            generalize f 82 = u82 at *
            generalize f 83 = u83 at *
            generalize f 84 = u84 at *
            generalize f 85 = u85 at *
            generalize f 86 = u86 at *
            generalize f 87 = u87 at *
            generalize f 88 = u88 at *
            generalize f 89 = u89 at *
            generalize f 90 = u90 at *
            generalize f 91 = u91 at *
            generalize f 92 = u92 at *
            generalize f 93 = u93 at *
            generalize f 94 = u94 at *
            generalize f 95 = u95 at *
            generalize f 96 = u96 at *
            clear f97 f
            replace CA := Lib.hid fun x (hx : Below W4.heap.size W4 x) => CA.out x (hb4.trans (hx.mono hb4.size))
            replace CB := Lib.hid fun x (hx : Below W4.heap.size W4 x) => CB.out x (hb4.trans (hx.mono hb4.size))
            replace C5 := Lib.hid fun x (hx : Below W4.heap.size W4 x) => C5.out x (hb4.trans (hx.mono hb4.size))
            replace C6 := Lib.hid fun x (hx : Below W4.heap.size W4 x) => C6.out x (hb4.trans (hx.mono hb4.size))
            replace C7 := Lib.hid fun x (hx : Below W4.heap.size W4 x) => C7.out x (hb4.trans (hx.mono hb4.size))
            replace RA := Lib.hid fun x (hx : Below W4.heap.size W4 x) => RA.out x (hb4.trans (hx.mono hb4.size))
            replace RB := Lib.hid fun x (hx : Below W4.heap.size W4 x) => RB.out x (hb4.trans (hx.mono hb4.size))
            replace R5 := Lib.hid fun x (hx : Below W4.heap.size W4 x) => R5.out x (hb4.trans (hx.mono hb4.size))
            replace R6 := Lib.hid fun x (hx : Below W4.heap.size W4 x) => R6.out x (hb4.trans (hx.mono hb4.size))
            replace R7 := Lib.hid fun x (hx : Below W4.heap.size W4 x) => R7.out x (hb4.trans (hx.mono hb4.size))
            replace FAc := Lib.hid fun x (hx : Below W4.heap.size W4 x) => FAc.out x (hb4.trans (hx.mono hb4.size))
            replace FBc := Lib.hid fun x (hx : Below W4.heap.size W4 x) => FBc.out x (hb4.trans (hx.mono hb4.size))
            replace F6 := Lib.hid fun x (hx : Below W4.heap.size W4 x) => F6.out x (hb4.trans (hx.mono hb4.size))
            replace F7 := Lib.hid fun x (hx : Below W4.heap.size W4 x) => F7.out x (hb4.trans (hx.mono hb4.size))
            replace BB := Lib.hid (BB.out.trans (hb4.mono BB.out.size))
            go_wp2_with fail
            refine wp_region_order (fun i => ([SP.eq (.agg #[.int .u8 q0, .int .u64 q1, .int .u64 q2, .int .u64 q3, .int .u64 q4, .slice ql qn qc]), SP.eq (.agg #[.int .u64 j0, .int .u64 j1, .int .u64 j2, .int .u64 j3]), SP.eq (.agg #[.int .u8 x0, .int .u64 x1, .int .u64 x2, .int .u64 x3, .int .u64 x4, .slice xl xn xc]), SP.eq (.agg #[.int .u64 fa0, .int .u64 fa1, .int .u64 fa2, .int .u64 fa3]), SP.eq (.agg #[.int .u8 y0, .int .u64 y1, .int .u64 y2, .int .u64 y3, .int .u64 y4, .slice yl yn yc]), SP.eq (.agg #[.int .u64 fb0, .int .u64 fb1, .int .u64 fb2, .int .u64 fb3]), SP.sets [⟨fa0, fa1, fa2, fa3⟩, ⟨fb0, fb1, fb2, fb3⟩] 2, SP.eq (.agg #[.int .u64 j0, .int .u64 j1, .int .u64 j2, .int .u64 j3]), SP.eq (.bool (true)), SP.eq (.bool (true)), SP.eq (.agg #[.int .u8 s0, .int .u64 s1, .int .u64 s2, .int .u64 s3, .int .u64 s4, .slice sl sn sc]), SP.eq (.agg #[.int .u64 fa0, .int .u64 fa1, .int .u64 fa2, .int .u64 fa3]), SP.eq (.agg #[.int .u8 x0, .int .u64 x1, .int .u64 x2, .int .u64 x3, .int .u64 x4, .slice xl xn xc]), SP.eq (.agg #[.int .u64 fa0, .int .u64 fa1, .int .u64 fa2, .int .u64 fa3]), SP.eq (.bool (true)), SP.eq (.bool (true)), SP.eq (.bool (true)), SP.eq (.bool (true)), SP.eq (.bool (true)), SP.eq (.bool (true))] : List SP).getD i SP.free) (by kernel_rfl) (by kernel_rfl) ⟨?_, ?_, ?_, ?_, ?_, ?_, ?_, ?_, ?_, ?_, ?_, ?_, ?_, ?_, ?_, ?_, ?_, ?_, ?_, ?_, trivial⟩ ?_
            · intro a x K out get hb hK
              rw [if_pos (wanted_none rfl)]
              have o6 : a.tmps[6]? = some (.pointer (some ⟨g6, 0, none⟩)) := out 6 (by kernel_rfl)
              obtain ⟨c0, c1, c2, c3, c4, c5, -⟩ := C6.out x hb
              clear out get
              go_simp
              exact hK _ _ rfl (Below.refl _ _)
            · intro a x K out get hb hK
              rw [if_pos (wanted_none rfl)]
              obtain ⟨y98, hy98, rfl⟩ := get 0 _ _ rfl rfl (by kernel_rfl)
              clear out get
              go_simp
              refine (F6.out x hb).mono ?_
              rintro e w2 ⟨rfl, hb2⟩
              exact hK _ _ rfl hb2
            · intro a x K out get hb hK
              rw [if_pos (wanted_none rfl)]
              have o2 : a.tmps[2]? = some (.pointer (some ⟨w.heap.size, 0, none⟩)) := out 2 (by kernel_rfl)
              obtain ⟨c0, c1, c2, c3, c4, c5, -⟩ := CA.out x hb
              clear out get
              go_simp
              exact hK _ _ rfl (Below.refl _ _)
            · intro a x K out get hb hK
              rw [if_pos (wanted_none rfl)]
              obtain ⟨y100, hy100, rfl⟩ := get 2 _ _ rfl rfl (by kernel_rfl)
              clear out get
              go_simp
              refine (FAc.out x hb).mono ?_
              rintro e w2 ⟨rfl, hb2⟩
              exact hK _ _ rfl hb2
            · intro a x K out get hb hK
              rw [if_pos (wanted_none rfl)]
              have o3 : a.tmps[3]? = some (.pointer (some ⟨w.heap.size + 1, 0, none⟩)) := out 3 (by kernel_rfl)
              obtain ⟨c0, c1, c2, c3, c4, c5, -⟩ := CB.out x hb
              clear out get
              go_simp
              exact hK _ _ rfl (Below.refl _ _)
            · intro a x K out get hb hK
              rw [if_pos (wanted_none rfl)]
              obtain ⟨y102, hy102, rfl⟩ := get 4 _ _ rfl rfl (by kernel_rfl)
              clear out get
              go_simp
              refine (FBc.out x hb).mono ?_
              rintro e w2 ⟨rfl, hb2⟩
              exact hK _ _ rfl hb2
            · intro a x K out get hb hK
              rw [if_pos (wanted_none rfl)]
              obtain ⟨y101, hy101, rfl⟩ := get 3 _ _ rfl rfl (by kernel_rfl)
              obtain ⟨y103, hy103, rfl⟩ := get 5 _ _ rfl rfl (by kernel_rfl)
              clear out get
              go_simp
              exact hK _ _ ⟨_, rfl, HS.out _ _ (blk_new x _)⟩ (bel_al _ _)
            · intro a x K out get hb hK
              rw [if_pos (wanted_none rfl)]
              obtain ⟨y104, hy104, ⟨g104, rfl, hrow104⟩⟩ := get 6 _ _ rfl rfl (by kernel_rfl)
              clear out get
              go_simp
              refine (KJ.out _ _ _ hrow104).mono ?_
              rintro e w2 ⟨rfl, hb2⟩
              exact hK _ _ rfl hb2
            · intro a x K out get hb hK
              rw [if_pos (wanted_none rfl)]
              obtain ⟨y99, hy99, rfl⟩ := get 1 _ _ rfl rfl (by kernel_rfl)
              obtain ⟨y105, hy105, rfl⟩ := get 7 _ _ rfl rfl (by kernel_rfl)
              clear out get
              have hq := eqJ.out
              go_simp
              exact hK _ _ rfl (Below.refl _ _)
            · intro a x K out get hb hK
              rw [if_pos (wanted_none rfl)]
              obtain ⟨y106, hy106, rfl⟩ := get 8 _ _ rfl rfl (by kernel_rfl)
              clear out get
              go_simp
              exact hK _ _ rfl (Below.refl _ _)
            · intro a x K out get hb hK
              obtain ⟨yg, hyg, rfl⟩ := get 9 _ _ rfl rfl (by kernel_rfl)
              rw [if_pos (by rw [wanted_bool rfl rfl rfl hyg]; rfl)]
              clear hyg
              have o7 : a.tmps[7]? = some (.pointer (some ⟨g7, 0, none⟩)) := out 7 (by kernel_rfl)
              obtain ⟨c0, c1, c2, c3, c4, c5, -⟩ := C7.out x hb
              clear out get
              go_simp
              exact hK _ _ rfl (Below.refl _ _)
            · intro a x K out get hb hK
              obtain ⟨yg, hyg, rfl⟩ := get 9 _ _ rfl rfl (by kernel_rfl)
              rw [if_pos (by rw [wanted_bool rfl rfl rfl hyg]; rfl)]
              clear hyg
              obtain ⟨y108, hy108, rfl⟩ := get 10 _ _ rfl rfl (by kernel_rfl)
              clear out get
              go_simp
              refine (F7.out x hb).mono ?_
              rintro e w2 ⟨rfl, hb2⟩
              exact hK _ _ rfl hb2
            · intro a x K out get hb hK
              obtain ⟨yg, hyg, rfl⟩ := get 9 _ _ rfl rfl (by kernel_rfl)
              rw [if_pos (by rw [wanted_bool rfl rfl rfl hyg]; rfl)]
              clear hyg
              have o2 : a.tmps[2]? = some (.pointer (some ⟨w.heap.size, 0, none⟩)) := out 2 (by kernel_rfl)
              obtain ⟨c0, c1, c2, c3, c4, c5, -⟩ := CA.out x hb
              clear out get
              go_simp
              exact hK _ _ rfl (Below.refl _ _)
            · intro a x K out get hb hK
              obtain ⟨yg, hyg, rfl⟩ := get 9 _ _ rfl rfl (by kernel_rfl)
              rw [if_pos (by rw [wanted_bool rfl rfl rfl hyg]; rfl)]
              clear hyg
              obtain ⟨y110, hy110, rfl⟩ := get 12 _ _ rfl rfl (by kernel_rfl)
              clear out get
              go_simp
              refine (FAc.out x hb).mono ?_
              rintro e w2 ⟨rfl, hb2⟩
              exact hK _ _ rfl hb2
            · intro a x K out get hb hK
              obtain ⟨yg, hyg, rfl⟩ := get 9 _ _ rfl rfl (by kernel_rfl)
              rw [if_pos (by rw [wanted_bool rfl rfl rfl hyg]; rfl)]
              clear hyg
              obtain ⟨y109, hy109, rfl⟩ := get 11 _ _ rfl rfl (by kernel_rfl)
              obtain ⟨y111, hy111, rfl⟩ := get 13 _ _ rfl rfl (by kernel_rfl)
              clear out get
              have hq := eqA.out
              go_simp
              exact hK _ _ rfl (Below.refl _ _)
            · intro a x K out get hb hK
              rw [if_pos (wanted_none rfl)]
              obtain ⟨y107, hy107, rfl⟩ := get 9 _ _ rfl rfl (by kernel_rfl)
              obtain ⟨y112, hy112, rfl⟩ := get 14 _ _ rfl rfl (by kernel_rfl)
              clear out get
              go_simp
              exact hK _ _ rfl (Below.refl _ _)
            · intro a x K out get hb hK
              rw [if_pos (wanted_none rfl)]
              obtain ⟨y113, hy113, rfl⟩ := get 15 _ _ rfl rfl (by kernel_rfl)
              clear out get
              go_simp
              exact hK _ _ rfl (Below.refl _ _)
            · intro a x K out get hb hK
              obtain ⟨yg, hyg, rfl⟩ := get 16 _ _ rfl rfl (by kernel_rfl)
              rw [if_pos (by rw [wanted_bool rfl rfl rfl hyg]; rfl)]
              clear hyg
              clear out get
              go_simp
              refine (KA.out x).mono ?_
              rintro e w2 ⟨rfl, hb2⟩
              exact hK _ _ rfl hb2
            · intro a x K out get hb hK
              rw [if_pos (wanted_none rfl)]
              obtain ⟨y114, hy114, rfl⟩ := get 16 _ _ rfl rfl (by kernel_rfl)
              obtain ⟨y115, hy115, rfl⟩ := get 17 _ _ rfl rfl (by kernel_rfl)
              clear out get
              go_simp
              exact hK _ _ rfl (Below.refl _ _)
            · intro a x K out get hb hK
              rw [if_pos (wanted_none rfl)]
              obtain ⟨y116, hy116, rfl⟩ := get 18 _ _ rfl rfl (by kernel_rfl)
              clear out get
              go_simp
              exact hK _ _ rfl (Below.refl _ _)
            refine ao_fin (isD := fun s => (decide (98 ≤ s) && decide (s ≤ 116)) || decide (s = 4)) (by kernel_rfl) ?_
            intro f W5 hv hb5
            have f4 : f 4 = .bool true := hv 19 _ _ rfl rfl
            clear hv
            simp only [frm]
            simp
            rw [f4]
            generalize f 98 = u98 at *
            generalize f 99 = u99 at *
            generalize f 100 = u100 at *
            generalize f 101 = u101 at *
            generalize f 102 = u102 at *
            generalize f 103 = u103 at *
            generalize f 104 = u104 at *
            generalize f 105 = u105 at *
            generalize f 106 = u106 at *
            generalize f 107 = u107 at *
            generalize f 108 = u108 at *
            generalize f 109 = u109 at *
            generalize f 110 = u110 at *
            generalize f 111 = u111 at *
            generalize f 112 = u112 at *
            generalize f 113 = u113 at *
            generalize f 114 = u114 at *
            generalize f 115 = u115 at *
            generalize f 116 = u116 at *
            clear f4 f
            have hBB := BB.out.trans (hb5.mono BB.out.size)
            go_wp2
            go_ret
            exact ⟨rfl, hBB⟩
end Go.Proofs.Ythnecifdgoeenaa
