/- Rows of expressions that a call itself makes by append; quillref03's Word. -/
import Derived.Test.YtfbhmljajoaniaaRexP
import Derived.Test.YtfbhmljajoaniaaSetD
import Derived.OwnWalk
namespace Go.Proofs.Ytfbhmljajoaniaa
open Go.RowKit
/-- Six values a node. -/
def RowVals (ok : Nat → Prop) (w : World) (xs : List Value) (l : List Rx) : Prop := xs.length = l.length * 6 ∧ ∀ i (h : i < l.length), ∃ c0 c1 c2 c3 c4 c5, (xs[i * 6]? = some c0 ∧ xs[i * 6 + 1]? = some c1 ∧ xs[i * 6 + 2]? = some c2 ∧ xs[i * 6 + 3]? = some c3 ∧ xs[i * 6 + 4]? = some c4 ∧ xs[i * 6 + 5]? = some c5) ∧ ReAt ok w (.agg #[c0, c1, c2, c3, c4, c5]) l[i]
theorem RowVals.nil (ok : Nat → Prop) (w : World) : RowVals ok w [] [] := ⟨rfl, fun _ h => absurd h (Nat.not_lt_zero _)⟩
theorem RowVals.go {ok ok' : Nat → Prop} {w w' : World} {xs : List Value} {l : List Rx} (h : RowVals ok w xs l) (hk : Kept ok ok' w w') : RowVals ok' w' xs l := by
  refine ⟨h.1, fun i hi => ?_⟩
  obtain ⟨c0, c1, c2, c3, c4, c5, hc, hr⟩ := h.2 i hi
  exact ⟨c0, c1, c2, c3, c4, c5, hc, hr.go hk⟩
theorem RowVals.append {ok : Nat → Prop} {w : World} {xs ys : List Value} {l m : List Rx} (h : RowVals ok w xs l) (h' : RowVals ok w ys m) : RowVals ok w (xs ++ ys) (l ++ m) := by
  refine ⟨by simp [h.1, h'.1]; omega, fun i hi => ?_⟩
  have hx := h.1
  have hy := h'.1
  by_cases e : i < l.length
  · obtain ⟨c0, c1, c2, c3, c4, c5, ⟨e0, e1, e2, e3, e4, e5⟩, hr⟩ := h.2 i e
    rw [List.getElem_append_left e]
    refine ⟨c0, c1, c2, c3, c4, c5, ⟨?_, ?_, ?_, ?_, ?_, ?_⟩, hr⟩ <;> (rw [List.getElem?_append_left (by omega)]; assumption)
  · have hi' : i - l.length < m.length := by simp at hi; omega
    obtain ⟨c0, c1, c2, c3, c4, c5, ⟨e0, e1, e2, e3, e4, e5⟩, hr⟩ := h'.2 (i - l.length) hi'
    rw [List.getElem_append_right (by omega)]
    refine ⟨c0, c1, c2, c3, c4, c5, ⟨?_, ?_, ?_, ?_, ?_, ?_⟩, hr⟩
    · rw [List.getElem?_append_right (by omega), show i * 6 - xs.length = (i - l.length) * 6 from by omega]; exact e0
    · rw [List.getElem?_append_right (by omega), show i * 6 + 1 - xs.length = (i - l.length) * 6 + 1 from by omega]; exact e1
    · rw [List.getElem?_append_right (by omega), show i * 6 + 2 - xs.length = (i - l.length) * 6 + 2 from by omega]; exact e2
    · rw [List.getElem?_append_right (by omega), show i * 6 + 3 - xs.length = (i - l.length) * 6 + 3 from by omega]; exact e3
    · rw [List.getElem?_append_right (by omega), show i * 6 + 4 - xs.length = (i - l.length) * 6 + 4 from by omega]; exact e4
    · rw [List.getElem?_append_right (by omega), show i * 6 + 5 - xs.length = (i - l.length) * 6 + 5 from by omega]; exact e5
theorem RowVals.one {ok : Nat → Prop} {w : World} {c0 c1 c2 c3 c4 c5 : Value} {r : Rx} (h : ReAt ok w (.agg #[c0, c1, c2, c3, c4, c5]) r) : RowVals ok w [c0, c1, c2, c3, c4, c5] [r] := by
  refine ⟨rfl, fun i hi => ?_⟩
  obtain rfl : i = 0 := by simpa using hi
  exact ⟨c0, c1, c2, c3, c4, c5, ⟨rfl, rfl, rfl, rfl, rfl, rfl⟩, h⟩
theorem row_of_own {ok : Nat → Prop} {w : World} {B : Nat} {v : Value} {xs : List Value} {l : List Rx} (h : w.ownsRow B 30 6 v l.length xs) (hv : RowVals ok w xs l) : ∃ al cap, v = .slice al l.length cap ∧ l.length ≤ cap ∧ RowAt (fun b => ok b ∨ B ≤ b) w al l := by
  obtain ⟨_, ⟨rfl, h0⟩ | ⟨g, cap, cur, rfl, hB, hg, hn, hm, hs, ht⟩⟩ := h
  · refine ⟨none, 0, by rw [h0], by omega, .inl (List.eq_nil_of_length_eq_zero h0)⟩
  · refine ⟨_, _, rfl, hn, .inr ⟨g, 0, rfl, (Array.getElem?_eq_some_iff.1 hg).1, .inr hB, nodesAt_of fun i hi => ?_⟩⟩
    obtain ⟨c0, c1, c2, c3, c4, c5, ⟨e0, e1, e2, e3, e4, e5⟩, hr⟩ := hv.2 i hi
    have cell : ∀ o x, o < l.length * 6 → xs[o]? = some x → w.cell? ⟨g, o, none⟩ = some x := by
      intro o x ho hx
      rw [← ht, List.getElem?_take, if_pos ho] at hx
      rw [Lib.cell_of_heap hg, ← Array.getElem?_toList]
      exact hx
    rw [show 0 + i * 6 = i * 6 from by omega]
    exact node_at (hr.imp fun _ _ h => .inl h) (cell _ _ (by omega) e0) (cell _ _ (by omega) e1) (cell _ _ (by omega) e2) (cell _ _ (by omega) e3) (cell _ _ (by omega) e4) (cell _ _ (by omega) e5)
theorem ownR_ge {w : World} {B : Nat} {v : Value} {n : Nat} {xs : List Value} (h : w.ownsRow B 30 6 v n xs) : ∀ g, v.ownBlock = some g → B ≤ g := by
  intro g hg
  obtain ⟨_, ⟨rfl, _⟩ | ⟨g', cap, cur, rfl, hB, _⟩⟩ := h
  · simp [Value.ownBlock] at hg
  · simp [Value.ownBlock] at hg; omega
theorem ownR_below {w w' : World} {B : Nat} {v : Value} {n : Nat} {xs : List Value} (h : w.ownsRow B 30 6 v n xs) (hb : Below w.heap.size w w') : w'.ownsRow B 30 6 v n xs := by
  obtain ⟨h1, h2⟩ := h
  refine ⟨h1, ?_⟩
  rcases h2 with h2 | ⟨g, cap, cur, rfl, hB, hg, hr⟩
  · exact .inl h2
  · exact .inr ⟨g, cap, cur, rfl, hB, (hb.block g (Array.getElem?_eq_some_iff.1 hg).1).trans hg, hr⟩
theorem six_cells (w : World) (c0 c1 c2 c3 c4 c5 : Value) : ∀ j u, [c0, c1, c2, c3, c4, c5][j]? = some u → (w.alloc (.cells #[c0, c1, c2, c3, c4, c5] 30)).cell? ((⟨w.heap.size, 0, none⟩ : Addr).add j) = some u := by
  intro j u h
  rw [Go.WideShapes.add_plain, Lib.cell_of_heap (blk_new w _)]
  simpa using h
def None : Nat → Prop := fun _ => False
theorem kept_none (w w' : World) (h : w.heap.size ≤ w'.heap.size) : Kept None None w w' := ⟨h, fun _ _ h => h.elim⟩
def rwInv (s : ByteArray) (w : World) (v y : Value) (wr : World) : Prop := ∃ (i : Nat) (xs : List Value), i ≤ s.size ∧ y = .int .i64 i ∧ wr.heap[w.heap.size]? = some nilBlk ∧ Below w.heap.size w wr ∧ wr.ownsRow (w.heap.size + 1) 30 6 v i xs ∧ RowVals None wr xs ((wordL s).take i)
set_option maxHeartbeats 4000000 in
theorem refWord_any (s : ByteArray) (w : World) (hs : s.size ≤ 1000000) :
    Calls Try.prog 23 #[.string s] w (NewPost (foldR 4 2 (wordL s)) w) := by
  obtain ⟨i0, hi, hz0, hz1, hz2⟩ := info_parts infoR
  have hz2' := Lib.hid hz2
  clear hz2
  have HWL := Lib.hid (length_wordL s)
  go_enter Try.func23, Try.ntmps23
  go_wp2
  go_loopw [3, 4] (fun v y wr => rwInv s w v y wr) (fun _ y _ => s.size - (intOf y).toNat)
  case atStart =>
    refine ⟨0, [], Nat.zero_le _, rfl, (Below.heap_alloc _ _ _ (by simp)).trans (blk_new w _), ((Below.refl _ w).alloc (Nat.le_refl _) _).alloc (by simp) _, ⟨rfl, .inr ⟨w.heap.size + 1, 0, #[], rfl, Nat.le_refl _, blk_at _ _ (by simp), Nat.le_refl _, Nat.zero_le _, rfl, rfl⟩⟩, RowVals.nil _ _⟩
  case round =>
    obtain ⟨i, xs, hii, rfl, hn, hb, hown, hvals⟩ := hrel
    have HN := Lib.hid hn
    have HO := Lib.hid hown
    have HV := Lib.hid hvals
    have hsz := hb.size
    clear hn hown hvals
    by_cases hlt : i < s.size
    · have htk := wordL_take s i hlt
      have K1 := Lib.hid fun W (h : BytesAt W (some ⟨wr.heap.size, 0, none⟩) [s[i]]) => refOf_any (some ⟨wr.heap.size, 0, none⟩) [s[i]] 1 W h
      have K2 := Lib.hid fun W => refOfR_any (ofN (natsOf [s[i]])) W (ofN_ok _)
      have HB1 := Lib.hid (bytes_one wr s[i] _ rfl)
      have HTK := Lib.hid htk
      clear htk
      have hrr := Lib.hid (show byteR s[i] = ofR (ofN (natsOf [s[i]])) from rfl)
      generalize ofN (natsOf [s[i]]) = S at *
      generalize byteR s[i] = R at *
      obtain ⟨sa, sb, sc, sd⟩ := S
      unfold Ws.v at K1 K2
      rw [show [s[i]].length = 1 from rfl] at K1
      go_wp2_with fail
      refine (K1.out _ HB1.out).mono ?_
      rintro e w2 ⟨rfl, hb2⟩
      have hbr : Below wr.heap.size wr w2 := ((Below.refl _ wr).alloc (Nat.le_refl _) _).trans (hb2.mono (by simp))
      clear hb2
      go_wp2_with fail
      refine (K2.out _).mono ?_
      rintro e w3 ⟨v, rfl, hv, hb3⟩
      obtain ⟨x0, x1, x2, x3, x4, bl, n', cp, rfl⟩ := cells_re hv
      replace hbr : Below wr.heap.size wr w3 := hbr.trans (hb3.mono hbr.size)
      have hv3 := leaf_of (ok' := None) hv
      rw [← hrr.out] at hv3
      have HV3 := Lib.hid hv3
      have HO3 := Lib.hid (ownR_below HO.out hbr)
      have hn3 : w3.heap[w.heap.size]? = some nilBlk := (hbr.block _ (Array.getElem?_eq_some_iff.1 HN.out).1).trans HN.out
      have HN3 := Lib.hid hn3
      have hb4 : Below w.heap.size w w3 := hb.trans (hbr.mono hsz)
      have hsz3 := hb4.size
      have hlt0 : w.heap.size < w3.heap.size := (Array.getElem?_eq_some_iff.1 hn3).1
      have HSZ := Lib.hid hbr.size
      clear hv hb3 hv3 hn3 hbr hb
      go_wp2_with (at_builtin; refine wpList_append_own _ rfl _ _ 22 rfl (w.heap.size + 1) 30 i0 _ 6 64 Try.underlying22 hi hz0 hz1 hz2'.out rfl (by decide) _ _ _ rfl (HO3.out.alloc _) ⟨w3.heap.size, 0, none⟩ 1 1 [.int .u8 x0, .int .u64 x1, .int .u64 x2, .int .u64 x3, .int .u64 x4, .slice bl n' cp] rfl rfl ?c1 ?c2 ?c3 ?c4 ?c5 ?_)
      case c1 => exact six_cells w3 _ _ _ _ _ _
      case c2 => intro u hu; simp at hu; rcases hu with rfl | rfl | rfl | rfl | rfl | rfl <;> rfl
      case c3 => unfold maxLen; omega
      case c4 => omega
      case c5 => simp; omega
      intro v' w4 hown' hgrow _
      have hb5 : Below w.heap.size w w4 := (hb4.alloc hsz3 _).grown hgrow (by simp; omega) (fun g hg => by have := ownR_ge HO3.out g hg; omega)
      have hn5 : w4.heap[w.heap.size]? = some nilBlk := (hgrow.block _ (by simp; omega) (fun e => by have := ownR_ge HO3.out _ e.symm; omega)).trans ((Below.heap_alloc _ _ _ hlt0).trans HN3.out)
      have hsz5 : w3.heap.size ≤ w4.heap.size := by have := hgrow.size; simp at this; omega
      have hvals : RowVals None w4 (xs ++ [.int .u8 x0, .int .u64 x1, .int .u64 x2, .int .u64 x3, .int .u64 x4, .slice bl n' cp]) ((wordL s).take i ++ [R]) :=
        (HV.out.go (kept_none _ _ (Nat.le_trans HSZ.out hsz5))).append ((RowVals.one HV3.out).go (kept_none _ _ hsz5))
      rw [← HTK.out] at hvals
      have HOW := Lib.hid hown'
      have HN5 := Lib.hid hn5
      have HVL := Lib.hid hvals
      clear hgrow hown' hn5 hvals
      go_wp2
      exact ⟨⟨i + 1, _, by omega, by go_num, HN5.out, hb5, HOW.out, HVL.out⟩, by simp [intOf]; omega⟩
    · have he : (wordL s).take i = wordL s := List.take_of_length_le (by rw [HWL.out]; omega)
      rw [he] at HV
      have hie : i = (wordL s).length := by rw [HWL.out]; omega
      obtain ⟨al, cap, hv, hcap, hrow⟩ := row_of_own (by rw [← hie]; exact HO.out) HV.out
      subst hv
      have K := Lib.hid (refFold_any 4 2 (.inl ⟨rfl, rfl⟩) (wordL s) _ al cap wr (by rw [HWL.out]; omega) hcap hrow)
      rw [← hie] at K ⊢
      clear he hie hcap hrow HO HV
      generalize foldR 4 2 (wordL s) = r at *
      go_wp2_with fail
      refine K.out.mono ?_
      rintro e w1 ⟨v, rfl, hv, hb1⟩
      obtain ⟨x0, x1, x2, x3, x4, bl, n', cp, rfl⟩ := cells_re hv
      have hlt0 : w.heap.size < wr.heap.size := (Array.getElem?_eq_some_iff.1 HN.out).1
      have hn1 : w1.heap[w.heap.size]? = some nilBlk := (hb1.block _ hlt0).trans HN.out
      have h1 := putR hn1 (.int .u8 x0) (.int .u64 x1) (.int .u64 x2) (.int .u64 x3) (.int .u64 x4) (.slice bl n' cp)
      have h2 : ReAt (New w.heap.size) (putW w1 w.heap.size (.int .u8 x0) (.int .u64 x1) (.int .u64 x2) (.int .u64 x3) (.int .u64 x4) (.slice bl n' cp)) (.agg #[.int .u8 x0, .int .u64 x1, .int .u64 x2, .int .u64 x3, .int .u64 x4, .slice bl n' cp]) r := by
        refine hv.go ⟨by rw [putW_size]; exact Nat.le_refl _, fun b _ h => ?_⟩
        have hb : w.heap.size + 1 ≤ b := by
          rcases h with (h | h) | h
          · exact h.elim
          · exact h
          · omega
        exact ⟨by unfold New; omega, putW_other _ _ _ _ _ _ _ _ (by omega)⟩
      have h3 := putB (hb.trans (hb1.mono hsz)) (Nat.le_refl w.heap.size) (.int .u8 x0) (.int .u64 x1) (.int .u64 x2) (.int .u64 x3) (.int .u64 x4) (.slice bl n' cp)
      obtain ⟨g0, g1, g2, g3, g4, g5, p0, p1, p2, p3, p4, p5⟩ := cellsR hn1
      unfold putW at h1 h2 h3
      have H1 := Lib.hid h1
      have H2 := Lib.hid h2
      have H3 := Lib.hid h3
      clear hv hb1 hn1 h1 h2 h3
      go_wp2
      exact ret_re H1.out Try.results23 rfl rfl ⟨_, rfl, H2.out, H3.out⟩
end Go.Proofs.Ytfbhmljajoaniaa
