/- Lemmas of mine, merged: RdrM, RdrN, RdrO, RdrR, RdrS, ReadAllW. -/
import Derived.Test.YtmkjcbgcikgglaaRdrDAll
import Derived.Test.YtmkjcbgcikgglaaRdrFAll
import Derived.Test.YtmkjcbgcikgglaaRexEAll
import Derived.Test.YtmkjcbgcikgglaaRexIAll
import Derived.OwnWalk
import Derived.Deep.AppendLies
import Derived.Test.YtmkjcbgcikgglaaReadAAll
import Derived.StillTailTactics
/- The landed reader's next: one step. -/
namespace Go.Proofs.Ytmkjcbgcikgglaa
open Go.RowKit
def StE (B D : Nat) (w : World) (s : ByteArray) (k : Nat) (low : List Lv) (top : Lv) : Prop := ∃ col G cap vlow vr vp, StC B D col w s k G cap vlow vr vp low top
/-- No list is longer than n. -/
def Bnd (n : Nat) (low : List Lv) (top : Lv) : Prop := low.length ≤ n ∧ (∀ lv ∈ low, lv.rows.length ≤ n ∧ lv.parts.length ≤ n) ∧ top.rows.length ≤ n ∧ top.parts.length ≤ n
theorem Bnd.mono {n m : Nat} {low : List Lv} {top : Lv} (h : Bnd n low top) (hm : n ≤ m) : Bnd m low top := ⟨Nat.le_trans h.1 hm, fun lv hl => ⟨Nat.le_trans (h.2.1 lv hl).1 hm, Nat.le_trans (h.2.1 lv hl).2 hm⟩, Nat.le_trans h.2.2.1 hm, Nat.le_trans h.2.2.2 hm⟩
theorem Bnd.add {n m : Nat} {low : List Lv} {top : Lv} {a : Ex} (h : Bnd n low top) (hm : n + 1 ≤ m) : Bnd m low ⟨top.rows, top.parts ++ [a]⟩ := by
  have := h.mono (show n ≤ m by omega)
  exact ⟨this.1, this.2.1, this.2.2.1, by have := h.2.2.2; simp; omega⟩
theorem Bnd.pop {n : Nat} {low : List Lv} {lv top : Lv} (h : Bnd n (low ++ [lv]) top) : Bnd n low lv := by
  have hl := h.2.1 lv (by simp)
  exact ⟨by have := h.1; simp at this; omega, fun x hx => h.2.1 x (by simp [hx]), hl.1, hl.2⟩
theorem Bnd.push {n m : Nat} {low : List Lv} {top : Lv} (h : Bnd n low top) (hm : n + 1 ≤ m) : Bnd m (low ++ [top]) ⟨[], []⟩ := by
  refine ⟨by have := h.1; simp; omega, fun x hx => ?_, by simp, by simp⟩
  simp at hx
  rcases hx with hx | rfl
  · have := h.2.1 x hx; omega
  · have := h.2.2; omega
def NxtPost (B D : Nat) (s : ByteArray) (l0 : List UInt8) (k : Nat) (w : World) (e : Ending) (w' : World) : Prop := Below B w w' ∧
  ((e = .returned (.tuple #[]) ∧ ∃ k' low top, k < k' ∧ k' ≤ s.size ∧ StE B D w' s k' low top ∧ StkSt l0 low top (tl s k') ∧ Bnd k' low top) ∨ (∃ k', k' ≤ s.size ∧ e = thr k' ∧ Ref l0 (tl s k')))
theorem ofR_ex (q : Ws) : (ofS q).rx = ofR q := by
  unfold ofS ofR
  split <;> rfl
theorem rng_full : rangeW 0 255 = Ws.full := by
  refine Ws.has_ext (ofN_ok _) Ws.full_ok fun m hm => ?_
  rw [Ws.has_full]
  show (rngW 0 255).has m = true
  unfold rngW
  rw [has_ofN _ (by intro x hx; simp at hx; omega) m hm]
  simp; omega
/-- An expression in new memory is added. -/
theorem add_new {B D : Nat} {col : Nat → Nat} {w W : World} {s : ByteArray} {k G cap n : Nat} {vlow : List (Value × Value)} {vr vp : Value} {low : List Lv} {top : Lv} (hS : StC B D col w s k G cap vlow vr vp low top) (hn : low.length < 1000000) (hp : top.parts.length < 1000000) {a : Ex} {v : Value} (hb : Below w.heap.size w W) (hre : ReAt (New n) W v a.rx) (hge : w.heap.size ≤ n) :
    Calls Try.prog 27 #[.pointer (some ⟨D, 0, none⟩), v] W (StepPost B D col W s k low ⟨top.rows, top.parts ++ [a]⟩) :=
  add_any (hS.below hb) hn hp a v (re_new hre (Nat.le_trans hS.sizes.1 hge) (fun b h => hS.new b (Nat.le_trans hge h)))
theorem nxt_ok {B D : Nat} {s : ByteArray} {l0 : List UInt8} {k k' : Nat} {col : Nat → Nat} {w W w' : World} {low : List Lv} {top : Lv} {e : Ending} (hB : Below B w W) (h : StepPost B D col W s k' low top e w') (hk : k < k') (hs : k' ≤ s.size) (hst : StkSt l0 low top (tl s k')) (hbn : Bnd k' low top) : e = .returned (.tuple #[]) ∧ NxtPost B D s l0 k w (.returned (.tuple #[])) w' := by
  obtain ⟨rfl, hb, col', G, cap, vlow, vr, vp, _, hS⟩ := h
  exact ⟨rfl, hB.trans hb, .inl ⟨rfl, k', low, top, hk, hs, ⟨col', G, cap, vlow, vr, vp, hS⟩, hst, hbn⟩⟩
/-- A level more. -/
theorem StC.pushed {B D : Nat} {col : Nat → Nat} {w w2 : World} {s : ByteArray} {k G cap : Nat} {vlow : List (Value × Value)} {vr vp : Value} {low : List Lv} {top : Lv} (hS : StC B D col w s k G cap vlow vr vp low top) {wA : World} {g' cap' : Nat} (hA : Below w.heap.size w wA) (hgrow : wA.grownBy w2 (some G)) (hat : G = g' ∨ g' = wA.heap.size) (how : w2.ownsRow B 52 2 (.slice (some ⟨g', 0, none⟩) (low.length + 1 + 1) cap') (low.length + 1 + 1) (flat vlow ++ [vr, vp] ++ [.slice none 0 0, .slice none 0 0])) :
    StC B D (upd col g' 2) (w2.setCell ⟨D, 2, none⟩ (.slice (some ⟨g', 0, none⟩) (low.length + 1 + 1) cap')) s k g' cap' (vlow ++ [(vr, vp)]) (.slice none 0 0) (.slice none 0 0) (low ++ [top]) ⟨[], []⟩ := by
  obtain ⟨z1, z2, z3, z4, z5, z6⟩ := hS.sizes
  have hat' : (Value.slice (some ⟨G, 0, none⟩) 0 0).ownBlock = some g' ∨ g' = wA.heap.size := by
    rcases hat with h | h
    · left; rw [← h]; rfl
    · exact .inr h
  have hf := grown_frame (v := .slice (some ⟨G, 0, none⟩) 0 0) (G := D) (g := g') (c := 2) (cc := 1) (w3 := w2.setCell ⟨D, 2, none⟩ (.slice (some ⟨g', 0, none⟩) (low.length + 1 + 1) cap')) hA hgrow hat' (fun g hg => by simp [Value.ownBlock] at hg; rw [← hg]; exact hS.cG) (by simp [World.setCell]) (fun b _ h2 => Below.heap_setCell _ _ _ _ h2) hS.cD
  have hDg : D ≠ g' := by
    intro e
    rcases hat with h | h
    · exact z5 (by rw [e, h])
    · have := hA.size; omega
  have hl : (low ++ [top]).length = low.length + 1 := by simp
  have hr : RdB w2 D s k (.slice (some ⟨G, 0, none⟩) (low.length + 1) cap) := hS.rd.of ((hgrow.block D (Nat.lt_of_lt_of_le z2 hA.size) (by intro e; simp at e; exact z5 e)).trans (hA.block D z2))
  refine ⟨by rw [hl]; exact hr.lay _, hS.ge, by rw [(hf.2 D z2).1]; exact hS.cD, ?_, upd_at _ _ _, ?_, ⟨RwC.nil _ _ _ _, RwC.nil _ _ _ _⟩, fun b hb => ?_⟩
  · rw [hl, flat_snoc]
    exact own_levels how (Below.heap_setCell _ _ _ _ (fun e => hDg e.symm))
  · exact (hS.lo.frame hf (by omega)).snoc (hS.tp.frame hf (by omega) (by omega) (by omega))
  · have h1 := (own_lt how).2.1
    have h2 : w2.heap.size ≤ b := by simpa [World.setCell] using hb
    rw [upd_far _ (by omega)]
    exact hS.new b (Nat.le_trans hA.size (Nat.le_trans hgrow.size h2))
theorem infoL : (Try.prog.info? 52).map (fun i => (i.zero, i.size, i.bytes)) = some (some (.agg #[.slice none 0 0, .slice none 0 0]), 2, 48) := by kernel_rfl
theorem two_at {g : Nat} (w : World) (hg : g = w.heap.size) (c0 c1 : Value) : ∀ j u, [c0, c1][j]? = some u → (w.alloc (.cells #[c0, c1] 52)).cell? ((⟨g, 0, none⟩ : Addr).add j) = some u := by
  intro j u h
  subst hg
  rw [Go.WideShapes.add_plain, Lib.cell_of_heap (blk_new w _)]
  simpa using h
/-- The front's byte, tested against the signs of the form. -/
structure Frt (f : ByteArray) (c : UInt8) : Prop where
  d40 : (f.toList == [40]) = decide (c = 40)
  d41 : (f.toList == [41]) = decide (c = 41)
  d124 : (f.toList == [124]) = decide (c = 124)
  d42 : (f.toList == [42]) = decide (c = 42)
  d46 : (f.toList == [46]) = decide (c = 46)
  d91 : (f.toList == [91]) = decide (c = 91)
theorem frt_of (c : UInt8) (t : List UInt8) : Frt (frS (c :: t)) c := by
  have h := (frS_one c t).list
  have e : ∀ x : UInt8, ([c] == [x]) = decide (c = x) := fun x => by
    by_cases hx : c = x
    · subst hx; simp
    · simp [hx]
  exact ⟨by rw [h, e], by rw [h, e], by rw [h, e], by rw [h, e], by rw [h, e], by rw [h, e]⟩
set_option maxHeartbeats 4000000 in
theorem next_open {B D : Nat} {col : Nat → Nat} {w : World} {s : ByteArray} {k G cap : Nat} {vlow : List (Value × Value)} {vr vp : Value} {low : List Lv} {top : Lv} (hS : StC B D col w s k G cap vlow vr vp low top) {l0 : List UInt8} (hs : s.size ≤ 65536) (hk : k < s.size) (hst : StkSt l0 low top (tl s k)) (hbn : Bnd k low top) (hc : s[k] = 40) :
    Calls Try.prog 18 #[.pointer (some ⟨D, 0, none⟩)] w (NxtPost B D s l0 k w) := by
  have hn := hbn.1
  have KF := Lib.hid (front_any hS.rd (by omega) (by omega))
  have hz := tl_cons s k hk
  rw [hz, hc] at KF hst
  have hst2 := hst.open
  obtain ⟨d1, d2, d3, d4, d5, d6⟩ := frt_of 40 (tl s (k + 1))
  generalize frS (40 :: tl s (k + 1)) = f at *
  simp only [decide_true] at d1
  obtain ⟨i0, hi0, hz0, hz1, hz2⟩ := info_parts infoL
  have hz2' := Lib.hid hz2
  have HS := Lib.hid hS
  have HST := Lib.hid hst2
  have HBN := Lib.hid (hbn.push (m := k + 1) (Nat.le_refl _))
  have hBw := hS.sizes.1
  have wk : IntKind.i64.wrap ((k : Int) + 1) = (k : Int) + 1 := by rw [IntKind.wrap_i64]; omega
  clear hz2 hS hst hst2 hbn hz hc d2 d3 d4 d5 d6
  go_enter Try.func18, Try.ntmps18
  go_wp2_with fail
  refine KF.out.mono ?_
  rintro e w1 ⟨rfl, hb1⟩
  have hS1 := HS.out.below hb1
  have hS2 := hS1.but ((But.refl D _ _).set 1 (.int .i64 ((k : Int) + 1))) (hS1.rd.go (k + 1))
  obtain ⟨c0, c1, c2⟩ := hS1.rd.cells
  obtain ⟨f0, f1, f2⟩ := hS1.rd.frozen
  have HS2 := Lib.hid hS2
  have HB2 := Lib.hid ((hb1.mono hBw).setCell (p := ⟨D, 1, none⟩) HS.out.ge (.int .i64 ((k : Int) + 1)))
  have hDl := hS1.rd.lt
  clear hS1 hS2 hb1
  go_wp2_with (at_builtin; refine wpList_append_lies _ rfl _ _ 53 rfl B 52 i0 _ 2 48 Try.underlying53 hi0 hz0 hz1 hz2'.out rfl (by decide) _ _ _ rfl (HS2.out.own.alloc _) ⟨w1.heap.size, 0, none⟩ 1 1 [.slice none 0 0, .slice none 0 0] rfl rfl ?c1 ?c2 (by decide) ?c3 ?c4 ?c5 _ rfl ?_)
  case c1 => exact two_at _ (by simp [World.setCell]) _ _
  case c2 => intro u hu; simp at hu; subst hu; rfl
  case c3 => unfold maxLen; omega
  case c4 => omega
  case c5 => exact Nat.le_trans HS2.out.sizes.1 (by simp)
  intro g' cap' w2 hown hgrow hat hlt
  have hA := (Below.refl _ (w1.setCell ⟨D, 1, none⟩ (.int .i64 ((k : Int) + 1)))).alloc (Nat.le_refl _) (.cells #[.slice none 0 0, .slice none 0 0] 52)
  have hS3 := HS2.out.pushed hA hgrow (by
    rcases hat with h | h
    · left; simp [Value.ownBlock] at h; exact h
    · exact .inr (by rw [h]; simp [World.setCell])) (by simpa using hown)
  have hr3 : RdB w2 D s (k + 1) (.slice (some ⟨G, 0, none⟩) (low.length + 1) cap) := HS2.out.rd.of ((hgrow.block D (by simp [World.setCell]; omega) (by intro e; simp [Value.ownBlock] at e; exact HS.out.sizes.2.2.2.2.1 e)).trans (hA.block D (by simp [World.setCell]; exact hDl)))
  obtain ⟨g0, g1, g2⟩ := hr3.cells
  obtain ⟨h0, h1, h2⟩ := hr3.frozen
  have HS3 := Lib.hid hS3
  have HB3 := Lib.hid ((Below.grown (HB2.out.alloc (Nat.le_trans HS2.out.sizes.1 (Nat.le_refl _)) _) hgrow (Nat.le_trans HS2.out.sizes.1 hA.size) (by intro x hx; simp [Value.ownBlock] at hx; subst hx; exact HS.out.sizes.2.2.2.1)).setCell (p := ⟨D, 2, none⟩) HS.out.ge (.slice (some ⟨g', 0, none⟩) (low.length + 1 + 1) cap'))
  clear hS3 hr3 hown hgrow hat hA
  go_wp2
  go_end0
  exact ⟨HB3.out, .inl ⟨rfl, k + 1, _, _, by omega, by omega, ⟨_, _, _, _, _, _, HS3.out⟩, HST.out, HBN.out⟩⟩
set_option maxHeartbeats 4000000 in
theorem next_star {B D : Nat} {col : Nat → Nat} {w : World} {s : ByteArray} {k G cap : Nat} {vlow : List (Value × Value)} {vr vp : Value} {low : List Lv} {top : Lv} (hS : StC B D col w s k G cap vlow vr vp low top) {l0 : List UInt8} (hs : s.size ≤ 65536) (hk : k < s.size) (hst : StkSt l0 low top (tl s k)) (hbn : Bnd k low top) (hc : s[k] = 42) :
    Calls Try.prog 18 #[.pointer (some ⟨D, 0, none⟩)] w (NxtPost B D s l0 k w) := by
  have hn := hbn.1
  have hnr := hbn.2.2.1
  have hnp := hbn.2.2.2
  have KF := Lib.hid (front_any hS.rd (by omega) (by omega))
  have hz := tl_cons s k hk
  rw [hz, hc] at KF hst
  obtain ⟨d1, d2, d3, d4, d5, d6⟩ := frt_of 42 (tl s (k + 1))
  generalize frS (42 :: tl s (k + 1)) = f at *
  rw [show decide ((42 : UInt8) = 40) = false from by decide] at d1
  rw [show decide ((42 : UInt8) = 41) = false from by decide] at d2
  rw [show decide ((42 : UInt8) = 124) = false from by decide] at d3
  rw [show decide ((42 : UInt8) = 42) = true from by decide] at d4
  rw [show decide ((42 : UInt8) = 46) = false from by decide] at d5
  rw [show decide ((42 : UInt8) = 91) = false from by decide] at d6
  have HS := Lib.hid hS
  have hBw := hS.sizes.1
  have wk : IntKind.i64.wrap ((k : Int) + 1) = (k : Int) + 1 := by rw [IntKind.wrap_i64]; omega
  have hsz := congrArg List.length hz
  have hself : tl s k = 42 :: tl s (k + 1) := by rw [hz, hc]
  obtain ⟨rows, parts⟩ := top
  by_cases hp : parts = []
  · subst hp
    have HRF := Lib.hid (show Ref l0 (tl s k) from by
      rw [hself]
      exact hst.bare rfl (notAt_cons (by decide)) (notAt_cons (by decide)) (notAt_cons (by decide)) (sgn_bad_cons 42 _ (by decide) (by decide)) (.inl (notAt_cons (by decide))))
    clear hst hsz hself hz hc
    clear hS
    go_enter Try.func18, Try.ntmps18
    go_wp2_with fail
    refine KF.out.mono ?_
    rintro e w1 ⟨rfl, hb1⟩
    have hS1 := HS.out.below hb1
    have HB1 := Lib.hid (hb1.mono hBw)
    have KS := Lib.hid (star_no hS1 (by omega))
    clear hS1
    go_wp2_with fail
    refine KS.out.mono ?_
    rintro e w2 ⟨rfl, hb2⟩
    exact ⟨rfl, HB1.out.trans hb2, .inr ⟨k, by omega, rfl, HRF.out⟩⟩
  · obtain ⟨ps, p, rfl⟩ : ∃ ps p, parts = ps ++ [p] := ⟨parts.dropLast, parts.getLast hp, (List.dropLast_concat_getLast hp).symm⟩
    have HST := Lib.hid hst.star
    have HBN := Lib.hid (show Bnd (k + 1) low ⟨rows, ps ++ [.star p]⟩ from by
      have h := hbn.mono (Nat.le_succ k)
      exact ⟨h.1, h.2.1, h.2.2.1, by have := h.2.2.2; simpa using this⟩)
    simp only [List.length_append, List.length_cons, List.length_nil] at hnp
    clear hst hsz hself hz hc hp hbn
    clear hS
    go_enter Try.func18, Try.ntmps18
    go_wp2_with fail
    refine KF.out.mono ?_
    rintro e w1 ⟨rfl, hb1⟩
    have hS1 := HS.out.below hb1
    have HB1 := Lib.hid (hb1.mono hBw)
    have KS := Lib.hid (star_yes hS1 (by omega) (by omega) (by omega))
    clear hS1
    go_wp2_with fail
    refine KS.out.mono ?_
    rintro e w2 hpost
    obtain ⟨rfl, hnx⟩ := nxt_ok HB1.out hpost (Nat.lt_succ_self k) (by omega) HST.out HBN.out
    go_wp2
    go_end0
    exact hnx
set_option maxHeartbeats 4000000 in
theorem next_bar {B D : Nat} {col : Nat → Nat} {w : World} {s : ByteArray} {k G cap : Nat} {vlow : List (Value × Value)} {vr vp : Value} {low : List Lv} {top : Lv} (hS : StC B D col w s k G cap vlow vr vp low top) {l0 : List UInt8} (hs : s.size ≤ 65536) (hk : k < s.size) (hst : StkSt l0 low top (tl s k)) (hbn : Bnd k low top) (hc : s[k] = 124) :
    Calls Try.prog 18 #[.pointer (some ⟨D, 0, none⟩)] w (NxtPost B D s l0 k w) := by
  have hn := hbn.1
  have hnr := hbn.2.2.1
  have hnp := hbn.2.2.2
  have KF := Lib.hid (front_any hS.rd (by omega) (by omega))
  have hz := tl_cons s k hk
  rw [hz, hc] at KF hst
  obtain ⟨d1, d2, d3, d4, d5, d6⟩ := frt_of 124 (tl s (k + 1))
  generalize frS (124 :: tl s (k + 1)) = f at *
  rw [show decide ((124 : UInt8) = 40) = false from by decide] at d1
  rw [show decide ((124 : UInt8) = 41) = false from by decide] at d2
  rw [show decide ((124 : UInt8) = 124) = true from by decide] at d3
  rw [show decide ((124 : UInt8) = 42) = false from by decide] at d4
  rw [show decide ((124 : UInt8) = 46) = false from by decide] at d5
  rw [show decide ((124 : UInt8) = 91) = false from by decide] at d6
  have HS := Lib.hid hS
  have hBw := hS.sizes.1
  have wk : IntKind.i64.wrap ((k : Int) + 1) = (k : Int) + 1 := by rw [IntKind.wrap_i64]; omega
  have hself : tl s k = 124 :: tl s (k + 1) := by rw [hz, hc]
  by_cases hp : top.parts = []
  · obtain ⟨rows, parts⟩ := top
    simp only at hp
    subst hp
    have HRF := Lib.hid (show Ref l0 (tl s k) from by
      rw [hself]
      exact hst.bare rfl (notAt_cons (by decide)) (notAt_cons (by decide)) (notAt_cons (by decide)) (sgn_bad_cons 124 _ (by decide) (by decide)) (.inl (notAt_cons (by decide))))
    clear hst hself hz hc
    clear hS
    go_enter Try.func18, Try.ntmps18
    go_wp2_with fail
    refine KF.out.mono ?_
    rintro e w1 ⟨rfl, hb1⟩
    have hS1 := HS.out.below hb1
    have HB1 := Lib.hid (hb1.mono hBw)
    have KS := Lib.hid (endRow_no hS1 (by omega))
    clear hS1
    go_wp2_with fail
    refine KS.out.mono ?_
    rintro e w2 ⟨rfl, hb2⟩
    exact ⟨rfl, HB1.out.trans hb2, .inr ⟨k, by omega, rfl, HRF.out⟩⟩
  · have HST := Lib.hid (hst.bar hp)
    have HBN := Lib.hid (show Bnd (k + 1) low ⟨top.rows ++ [foldE .seq top.parts], []⟩ from by
      have h := hbn.mono (Nat.le_succ k)
      exact ⟨h.1, h.2.1, by simp; omega, by simp⟩)
    have HP := Lib.hid hp
    clear hst hself hz hc hp hbn
    clear hS
    go_enter Try.func18, Try.ntmps18
    go_wp2_with fail
    refine KF.out.mono ?_
    rintro e w1 ⟨rfl, hb1⟩
    have hS1 := HS.out.below hb1
    have HB1 := Lib.hid (hb1.mono hBw)
    have KS := Lib.hid (endRow_yes hS1 (by omega) (by omega) (by omega) HP.out)
    clear hS1
    go_wp2_with fail
    refine KS.out.mono ?_
    rintro e w2 ⟨rfl, hb2, col2, G2, cap2, vlow2, vr2, vp2, hf2, hS2⟩
    have hS3 := hS2.but ((But.refl D _ _).set 1 (.int .i64 ((k : Int) + 1))) (hS2.rd.go (k + 1))
    have HB3 := Lib.hid ((HB1.out.trans hb2).setCell (p := ⟨D, 1, none⟩) HS.out.ge (.int .i64 ((k : Int) + 1)))
    obtain ⟨c0, c1, c2⟩ := hS2.rd.cells
    obtain ⟨f0, f1, f2⟩ := hS2.rd.frozen
    have HS3 := Lib.hid hS3
    clear hS2 hS3 hb2 hf2
    go_wp2
    go_end0
    exact ⟨HB3.out, .inl ⟨rfl, k + 1, _, _, by omega, by omega, ⟨_, _, _, _, _, _, HS3.out⟩, HST.out, HBN.out⟩⟩
set_option maxHeartbeats 4000000 in
theorem next_dot {B D : Nat} {col : Nat → Nat} {w : World} {s : ByteArray} {k G cap : Nat} {vlow : List (Value × Value)} {vr vp : Value} {low : List Lv} {top : Lv} (hS : StC B D col w s k G cap vlow vr vp low top) {l0 : List UInt8} (hs : s.size ≤ 65536) (hk : k < s.size) (hst : StkSt l0 low top (tl s k)) (hbn : Bnd k low top) (hc : s[k] = 46) :
    Calls Try.prog 18 #[.pointer (some ⟨D, 0, none⟩)] w (NxtPost B D s l0 k w) := by
  have hn := hbn.1
  have hnr := hbn.2.2.1
  have hnp := hbn.2.2.2
  have KF := Lib.hid (front_any hS.rd (by omega) (by omega))
  have hz := tl_cons s k hk
  rw [hz, hc] at KF hst
  obtain ⟨d1, d2, d3, d4, d5, d6⟩ := frt_of 46 (tl s (k + 1))
  generalize frS (46 :: tl s (k + 1)) = f at *
  rw [show decide ((46 : UInt8) = 40) = false from by decide] at d1
  rw [show decide ((46 : UInt8) = 41) = false from by decide] at d2
  rw [show decide ((46 : UInt8) = 124) = false from by decide] at d3
  rw [show decide ((46 : UInt8) = 42) = false from by decide] at d4
  rw [show decide ((46 : UInt8) = 46) = true from by decide] at d5
  rw [show decide ((46 : UInt8) = 91) = false from by decide] at d6
  have HS := Lib.hid hS
  have hBw := hS.sizes.1
  have wk : IntKind.i64.wrap ((k : Int) + 1) = (k : Int) + 1 := by rw [IntKind.wrap_i64]; omega
  have HST := Lib.hid (hst.add (PX.dot _))
  have HBN := Lib.hid (hbn.add (a := .cls Ws.full) (Nat.le_refl (k + 1)))
  have KR := Lib.hid fun W => range_any 0 255 W (by decide) (by decide)
  rw [rng_full, show ((0 : Nat) : Int) = 0 from rfl, show ((255 : Nat) : Int) = 255 from rfl] at KR
  have KO := Lib.hid fun W => ofX_any Ws.full W Ws.full_ok
  rw [show ofR Ws.full = (Ex.cls Ws.full).rx from by rw [← ofR_ex, ofS_ne full_ne]] at KO
  clear hst hz hc hbn
  clear hS
  go_enter Try.func18, Try.ntmps18
  go_wp2_with fail
  refine KF.out.mono ?_
  rintro e w1 ⟨rfl, hb1⟩
  have hS1 := HS.out.below hb1
  have HB1 := Lib.hid (hb1.mono hBw)
  have hS2 := hS1.but ((But.refl D _ _).set 1 (.int .i64 ((k : Int) + 1))) (hS1.rd.go (k + 1))
  have HB2 := Lib.hid (HB1.out.setCell (p := ⟨D, 1, none⟩) HS.out.ge (.int .i64 ((k : Int) + 1)))
  obtain ⟨c0, c1, c2⟩ := hS1.rd.cells
  obtain ⟨f0, f1, f2⟩ := hS1.rd.frozen
  have HS2 := Lib.hid hS2
  clear hS1 hS2 hb1
  generalize Ws.full = q at *
  go_wp2_with fail
  refine (KR.out _).mono ?_
  rintro e w2 ⟨rfl, hb2⟩
  go_wp2_with fail
  refine (KO.out _).mono ?_
  rintro e w3 ⟨v, rfl, hv, hb3⟩
  have hb := hb2.trans (hb3.mono hb2.size)
  have KA := Lib.hid (add_new HS2.out (by omega) (by omega) hb hv hb2.size)
  have HB3 := Lib.hid (HB2.out.trans (hb.mono HS2.out.sizes.1))
  clear hv hb2 hb3 hb
  go_wp2_with fail
  refine KA.out.mono ?_
  rintro e w4 hpost
  obtain ⟨rfl, hnx⟩ := nxt_ok HB3.out hpost (Nat.lt_succ_self k) (by omega) HST.out HBN.out
  go_wp2
  go_end0
  exact hnx
end Go.Proofs.Ytmkjcbgcikgglaa
/- The landed reader's next, the other signs; one step, whatever stands there. -/
namespace Go.Proofs.Ytmkjcbgcikgglaa
open Go.RowKit
theorem low_or (low : List Lv) : low = [] ∨ ∃ l lv, low = l ++ [lv] := by
  by_cases h : low = []
  · exact .inl h
  · exact .inr ⟨low.dropLast, low.getLast h, (List.dropLast_concat_getLast h).symm⟩
theorem pcls_suffix {q : Ws} {l r : List UInt8} (h : PCls q l (.bad r)) : r <:+ l := by
  generalize hx : PR.bad r = x at h
  induction h with
  | done => cases hx
  | bad1 _ hs => cases hx; exact sgn_bad hs
  | one _ hs _ _ ih => exact (ih hx).trans (sgn_ok hs).2.1
  | bad2 _ hs hs2 => cases hx; exact (sgn_bad hs2).trans ((List.suffix_cons _ _).trans (sgn_ok hs).2.1)
  | less _ hs _ _ => cases hx; exact (List.suffix_cons _ _).trans (sgn_ok hs).2.1
  | range _ hs hs2 _ _ ih => exact (ih hx).trans ((sgn_ok hs2).2.1.trans ((List.suffix_cons _ _).trans (sgn_ok hs).2.1))
set_option maxHeartbeats 4000000 in
theorem next_cls {B D : Nat} {col : Nat → Nat} {w : World} {s : ByteArray} {k G cap : Nat} {vlow : List (Value × Value)} {vr vp : Value} {low : List Lv} {top : Lv} (hS : StC B D col w s k G cap vlow vr vp low top) {l0 : List UInt8} (hs : s.size ≤ 65536) (hk : k < s.size) (hst : StkSt l0 low top (tl s k)) (hbn : Bnd k low top) (hc : s[k] = 91) :
    Calls Try.prog 18 #[.pointer (some ⟨D, 0, none⟩)] w (NxtPost B D s l0 k w) := by
  have hn := hbn.1
  have hnr := hbn.2.2.1
  have hnp := hbn.2.2.2
  have KF := Lib.hid (front_any hS.rd (by omega) (by omega))
  have hz := tl_cons s k hk
  rw [hz, hc] at KF hst
  obtain ⟨d1, d2, d3, d4, d5, d6⟩ := frt_of 91 (tl s (k + 1))
  generalize frS (91 :: tl s (k + 1)) = f at *
  rw [show decide ((91 : UInt8) = 40) = false from by decide] at d1
  rw [show decide ((91 : UInt8) = 41) = false from by decide] at d2
  rw [show decide ((91 : UInt8) = 124) = false from by decide] at d3
  rw [show decide ((91 : UInt8) = 42) = false from by decide] at d4
  rw [show decide ((91 : UInt8) = 46) = false from by decide] at d5
  rw [show decide ((91 : UInt8) = 91) = true from by decide] at d6
  have HS := Lib.hid hS
  have hBw := hS.sizes.1
  have wk : IntKind.i64.wrap ((k : Int) + 1) = (k : Int) + 1 := by rw [IntKind.wrap_i64]; omega
  have hself : tl s k = 91 :: tl s (k + 1) := by rw [hz, hc]
  obtain ⟨res, hres⟩ := PCls.total _ Ws.nil (tl s (k + 1)) (Nat.le_refl _)
  have hpx := PX.cls hres
  have hfact := hpx.fact
  have KI := Lib.hid fun W vl (h : RdB W D s k vl) hv => items_any (vl := vl) h (by omega) hk hv res hres
  cases res with
  | bad r =>
    have hrs : r <:+ tl s (k + 1) := pcls_suffix hres
    obtain ⟨k1, hk1, hpos1, hl1, hln1⟩ := lpos hrs
    have HRF := Lib.hid (show Ref l0 (tl s k1) from by
      rw [← hl1]
      exact .inl (hst.atomBad hpx (.inr rfl) (.inl (notAt_cons (by decide)))))
    clear hst hself hz hc hfact hpx hres hrs hl1
    clear hS
    go_enter Try.func18, Try.ntmps18
    go_wp2_with fail
    refine KF.out.mono ?_
    rintro e w1 ⟨rfl, hb1⟩
    have hS1 := HS.out.below hb1
    have HB1 := Lib.hid (hb1.mono hBw)
    have KI1 := Lib.hid (KI.out w1 _ hS1.rd (by simp))
    have hS1B := hS1.ge
    clear hS1
    go_wp2_with fail
    refine KI1.out.mono ?_
    rintro e w2 ⟨hb2, he⟩
    simp only at he
    rw [hpos1] at he
    subst he
    exact ⟨rfl, HB1.out.trans ((hb2.mono (Nat.le_trans hBw hb1.size)).below hS1B), .inr ⟨k1, hk1, rfl, HRF.out⟩⟩
  | ok ex l1 =>
    obtain ⟨_, hsuf, hll, _⟩ := hfact
    rw [← hself] at hsuf hll
    rw [tl_len] at hll
    obtain ⟨k1, hk1, hpos1, hl1, hln1⟩ := lpos hsuf
    rw [hl1] at hpx
    have HST := Lib.hid (hst.add hpx)
    have HBN := Lib.hid (hbn.add (a := ex) (m := k1) (by omega))
    clear hst hself hz hc hpx hres hbn hsuf
    clear hS
    go_enter Try.func18, Try.ntmps18
    go_wp2_with fail
    refine KF.out.mono ?_
    rintro e w1 ⟨rfl, hb1⟩
    have hS1 := HS.out.below hb1
    have HB1 := Lib.hid (hb1.mono hBw)
    have KI1 := Lib.hid (KI.out w1 _ hS1.rd (by simp))
    have HS1 := Lib.hid hS1
    clear hS1
    go_wp2_with fail
    refine KI1.out.mono ?_
    rintro e w2 ⟨hb2, q, hq, hqe, he, hr2⟩
    subst he
    rw [hpos1] at hr2
    have hS2 := HS1.out.but hb2 hr2
    have HB2 := Lib.hid (HB1.out.trans ((hb2.mono (Nat.le_trans hBw hb1.size)).below HS.out.ge))
    have HS2 := Lib.hid hS2
    have KO := Lib.hid fun W => ofX_any q W hq
    rw [show ofR q = ex.rx from by rw [← ofR_ex, hqe]] at KO
    clear hS2 hb2 hr2 hqe
    go_wp2_with fail
    refine (KO.out _).mono ?_
    rintro e w3 ⟨v, rfl, hv, hb3⟩
    have KA := Lib.hid (add_new HS2.out (by omega) (by omega) hb3 hv (Nat.le_refl _))
    have HB3 := Lib.hid (HB2.out.trans (hb3.mono HS2.out.sizes.1))
    clear hv hb3
    go_wp2_with fail
    refine KA.out.mono ?_
    rintro e w4 hpost
    obtain ⟨rfl, hnx⟩ := nxt_ok HB3.out hpost (show k < k1 from by omega) hk1 HST.out HBN.out
    go_wp2
    go_end0
    exact hnx
set_option maxHeartbeats 4000000 in
theorem next_close {B D : Nat} {col : Nat → Nat} {w : World} {s : ByteArray} {k G cap : Nat} {vlow : List (Value × Value)} {vr vp : Value} {low : List Lv} {top : Lv} (hS : StC B D col w s k G cap vlow vr vp low top) {l0 : List UInt8} (hs : s.size ≤ 65536) (hk : k < s.size) (hst : StkSt l0 low top (tl s k)) (hbn : Bnd k low top) (hc : s[k] = 41) :
    Calls Try.prog 18 #[.pointer (some ⟨D, 0, none⟩)] w (NxtPost B D s l0 k w) := by
  have hn := hbn.1
  have hnr := hbn.2.2.1
  have hnp := hbn.2.2.2
  have KF := Lib.hid (front_any hS.rd (by omega) (by omega))
  have hz := tl_cons s k hk
  rw [hz, hc] at KF hst
  obtain ⟨d1, d2, d3, d4, d5, d6⟩ := frt_of 41 (tl s (k + 1))
  generalize frS (41 :: tl s (k + 1)) = f at *
  rw [show decide ((41 : UInt8) = 40) = false from by decide] at d1
  rw [show decide ((41 : UInt8) = 41) = true from by decide] at d2
  rw [show decide ((41 : UInt8) = 124) = false from by decide] at d3
  rw [show decide ((41 : UInt8) = 42) = false from by decide] at d4
  rw [show decide ((41 : UInt8) = 46) = false from by decide] at d5
  rw [show decide ((41 : UInt8) = 91) = false from by decide] at d6
  have HS := Lib.hid hS
  have hBw := hS.sizes.1
  have wk : IntKind.i64.wrap ((k : Int) + 1) = (k : Int) + 1 := by rw [IntKind.wrap_i64]; omega
  have hself : tl s k = 41 :: tl s (k + 1) := by rw [hz, hc]
  have hsb : sgn (41 :: tl s (k + 1)) = .bad (41 :: tl s (k + 1)) := sgn_41 _
  rcases low_or low with rfl | ⟨low, lv, rfl⟩
  · have HRF := Lib.hid (show Ref l0 (tl s k) from by
      rw [hself]
      by_cases hp : top.parts = []
      · exact hst.bare hp (notAt_cons (by decide)) (notAt_cons (by decide)) (notAt_cons (by decide)) hsb (.inr (.inl rfl))
      · exact hst.ended hp (notAt_cons (by decide)) (beg_41 _) (notAt_cons (by decide)) (.inl ⟨rfl, by simp⟩))
    clear hst hself hz hc hsb
    clear hS
    go_enter Try.func18, Try.ntmps18
    go_wp2_with fail
    refine KF.out.mono ?_
    rintro e w1 ⟨rfl, hb1⟩
    have hS1 := HS.out.below hb1
    have HB1 := Lib.hid (hb1.mono hBw)
    have KS := Lib.hid (closed_one hS1)
    clear hS1
    go_wp2_with fail
    refine KS.out.mono ?_
    rintro e w2 ⟨rfl, hb2⟩
    exact ⟨rfl, HB1.out.trans hb2, .inr ⟨k, by omega, rfl, HRF.out⟩⟩
  · by_cases hp : top.parts = []
    · obtain ⟨rows, parts⟩ := top
      simp only at hp
      subst hp
      by_cases hr : rows = []
      · subst hr
        have HST := Lib.hid (hst.closeE rfl rfl)
        have HBN := Lib.hid (hbn.pop.add (a := .eps) (Nat.le_refl (k + 1)))
        have hpl := hbn.pop
        have hpl1 := hpl.1
        have hpl2 := hpl.2.2.2
        clear hst hself hz hc hsb hbn hpl
        clear hS
        go_enter Try.func18, Try.ntmps18
        go_wp2_with fail
        refine KF.out.mono ?_
        rintro e w1 ⟨rfl, hb1⟩
        have hS1 := HS.out.below hb1
        have HB1 := Lib.hid (hb1.mono hBw)
        have KS := Lib.hid (closed_eps hS1 (by omega) (by omega))
        clear hS1
        go_wp2_with fail
        refine KS.out.mono ?_
        rintro e w2 ⟨col2, G2, cap2, vlow2, vr2, vp2, y0, y1, y2, y3, y4, yl, yn, yc, rfl, hb2, hf2, hS2, hre2⟩
        have KA := Lib.hid (add_any hS2 (by omega) (by omega) .eps _ hre2)
        have HB2 := Lib.hid (HB1.out.trans hb2)
        clear hS2 hre2 hf2 hb2
        go_wp2_with fail
        refine KA.out.mono ?_
        rintro e w4 hpost
        obtain ⟨rfl, hnx⟩ := nxt_ok HB2.out hpost (Nat.lt_succ_self k) (by omega) HST.out HBN.out
        go_wp2
        go_end0
        exact hnx
      · have HRF := Lib.hid (show Ref l0 (tl s k) from by
          rw [hself]
          exact hst.bare rfl (notAt_cons (by decide)) (notAt_cons (by decide)) (notAt_cons (by decide)) hsb (.inr (.inr hr)))
        have HR := Lib.hid hr
        clear hst hself hz hc hsb hr
        clear hS
        go_enter Try.func18, Try.ntmps18
        go_wp2_with fail
        refine KF.out.mono ?_
        rintro e w1 ⟨rfl, hb1⟩
        have hS1 := HS.out.below hb1
        have HB1 := Lib.hid (hb1.mono hBw)
        have KS := Lib.hid (closed_no hS1 (by simp) (by omega) (by omega) HR.out)
        clear hS1
        go_wp2_with fail
        refine KS.out.mono ?_
        rintro e w2 ⟨rfl, hb2⟩
        exact ⟨rfl, HB1.out.trans hb2, .inr ⟨k, by omega, rfl, HRF.out⟩⟩
    · have HST := Lib.hid (hst.close hp)
      have HBN := Lib.hid (hbn.pop.add (a := foldE .alt (top.rows ++ [foldE .seq top.parts])) (Nat.le_refl (k + 1)))
      have hpl := hbn.pop
      have hpl1 := hpl.1
      have hpl2 := hpl.2.2.2
      have HP := Lib.hid hp
      clear hst hself hz hc hsb hbn hpl hp
      clear hS
      go_enter Try.func18, Try.ntmps18
      go_wp2_with fail
      refine KF.out.mono ?_
      rintro e w1 ⟨rfl, hb1⟩
      have hS1 := HS.out.below hb1
      have HB1 := Lib.hid (hb1.mono hBw)
      have KS := Lib.hid (closed_yes hS1 (by omega) (by omega) (by omega) (by omega) HP.out)
      clear hS1
      go_wp2_with fail
      refine KS.out.mono ?_
      rintro e w2 ⟨col2, G2, cap2, vlow2, vr2, vp2, y0, y1, y2, y3, y4, yl, yn, yc, rfl, hb2, hf2, hS2, hre2⟩
      have KA := Lib.hid (add_any hS2 (by omega) (by omega) _ _ hre2)
      have HB2 := Lib.hid (HB1.out.trans hb2)
      clear hS2 hre2 hf2 hb2
      go_wp2_with fail
      refine KA.out.mono ?_
      rintro e w4 hpost
      obtain ⟨rfl, hnx⟩ := nxt_ok HB2.out hpost (Nat.lt_succ_self k) (by omega) HST.out HBN.out
      go_wp2
      go_end0
      exact hnx
set_option maxHeartbeats 4000000 in
theorem next_sign {B D : Nat} {col : Nat → Nat} {w : World} {s : ByteArray} {k G cap : Nat} {vlow : List (Value × Value)} {vr vp : Value} {low : List Lv} {top : Lv} (hS : StC B D col w s k G cap vlow vr vp low top) {l0 : List UInt8} (hs : s.size ≤ 65536) (hk : k < s.size) (hst : StkSt l0 low top (tl s k)) (hbn : Bnd k low top) (n40 : s[k] ≠ 40) (n41 : s[k] ≠ 41) (n124 : s[k] ≠ 124) (n42 : s[k] ≠ 42) (n46 : s[k] ≠ 46) (n91 : s[k] ≠ 91) :
    Calls Try.prog 18 #[.pointer (some ⟨D, 0, none⟩)] w (NxtPost B D s l0 k w) := by
  have hn := hbn.1
  have hnp := hbn.2.2.2
  have KF := Lib.hid (front_any hS.rd (by omega) (by omega))
  have hz := tl_cons s k hk
  obtain ⟨d1, d2, d3, d4, d5, d6⟩ := frt_of s[k] (tl s (k + 1))
  rw [hz] at KF
  generalize frS (s[k] :: tl s (k + 1)) = f at *
  rw [decide_eq_false n40] at d1
  rw [decide_eq_false n41] at d2
  rw [decide_eq_false n124] at d3
  rw [decide_eq_false n42] at d4
  rw [decide_eq_false n46] at d5
  rw [decide_eq_false n91] at d6
  have m40 : NotAt 40 (tl s k) := by rw [hz]; exact notAt_cons n40
  have m41 : NotAt 41 (tl s k) := by rw [hz]; exact notAt_cons n41
  have m124 : NotAt 124 (tl s k) := by rw [hz]; exact notAt_cons n124
  have m42 : NotAt 42 (tl s k) := by rw [hz]; exact notAt_cons n42
  have m46 : NotAt 46 (tl s k) := by rw [hz]; exact notAt_cons n46
  have m91 : NotAt 91 (tl s k) := by rw [hz]; exact notAt_cons n91
  have hne : tl s k ≠ [] := by rw [hz]; simp
  have HS := Lib.hid hS
  have hBw := hS.sizes.1
  have KG := Lib.hid fun W vl (h : RdB W D s k vl) hv => rsign_any (vl := vl) h (by omega) (Nat.le_of_lt hk) hv
  cases hsg : sgn (tl s k) with
  | bad r =>
    obtain ⟨k1, hk1, hpos1, hl1, hln1⟩ := lpos (sgn_bad hsg)
    have HRF := Lib.hid (show Ref l0 (tl s k1) from by
      rw [← hl1]
      exact hst.signBad hne m46 m91 m40 m41 m42 m124 hsg)
    rw [hsg] at KG
    clear hst hz hsg hl1 m40 m41 m124 m42 m46 m91 hne n40 n41 n124 n42 n46 n91
    clear hS
    go_enter Try.func18, Try.ntmps18
    go_wp2_with fail
    refine KF.out.mono ?_
    rintro e w1 ⟨rfl, hb1⟩
    have hS1 := HS.out.below hb1
    have HB1 := Lib.hid (hb1.mono hBw)
    have KI1 := Lib.hid (KG.out w1 _ hS1.rd (by simp))
    have hS1B := hS1.ge
    clear hS1
    go_wp2_with fail
    refine KI1.out.mono ?_
    rintro e w2 ⟨hb2, he⟩
    simp only at he
    rw [hpos1] at he
    subst he
    exact ⟨rfl, HB1.out.trans ((hb2.mono (Nat.le_trans hBw hb1.size)).below hS1B), .inr ⟨k1, hk1, rfl, HRF.out⟩⟩
  | ok b l1 =>
    obtain ⟨hb256, hsuf, hll⟩ := sgn_ok hsg
    obtain ⟨k1, hk1, hpos1, hl1, hln1⟩ := lpos hsuf
    rw [tl_len] at hll
    have hsg' : sgn (tl s k) = .ok b (tl s k1) := by rw [← hl1]; exact hsg
    have HST := Lib.hid (hst.add (PX.sign m46 m91 m40 hsg'))
    have HBN := Lib.hid (hbn.add (a := .cls (rngW b b)) (m := k1) (by omega))
    have KO := Lib.hid fun W => ofX_any (rngW b b) W (rng_ok b b)
    rw [show ofR (rngW b b) = (Ex.cls (rngW b b)).rx from by rw [← ofR_ex, ofS_ne (rng_ne hb256)]] at KO
    rw [hsg] at KG
    clear hst hz hsg hsg' hl1 hsuf hbn m40 m41 m124 m42 m46 m91 hne n40 n41 n124 n42 n46 n91
    clear hS
    go_enter Try.func18, Try.ntmps18
    go_wp2_with fail
    refine KF.out.mono ?_
    rintro e w1 ⟨rfl, hb1⟩
    have hS1 := HS.out.below hb1
    have HB1 := Lib.hid (hb1.mono hBw)
    have KI1 := Lib.hid (KG.out w1 _ hS1.rd (by simp))
    have HS1 := Lib.hid hS1
    clear hS1
    go_wp2_with fail
    refine KI1.out.mono ?_
    rintro e w2 ⟨hb2, he, hr2⟩
    subst he
    rw [hpos1] at hr2
    have hS2 := HS1.out.but hb2 hr2
    have HB2 := Lib.hid (HB1.out.trans ((hb2.mono (Nat.le_trans hBw hb1.size)).below HS.out.ge))
    have HS2 := Lib.hid hS2
    have KF2 := Lib.hid (setOf_any (some ⟨w2.heap.size, 0, none⟩) [UInt8.ofNat b] 1 (w2.alloc (.cells #[.int .u8 (b : Int)] 5)) (one_byte w2 b hb256))
    rw [ret_one b hb256] at KF2
    clear hS2 hb2 hr2
    generalize rngW b b = q at *
    go_wp2_with fail
    refine KF2.out.mono ?_
    rintro e w3 ⟨rfl, hb3⟩
    have hb3' := below_al hb3
    go_wp2_with fail
    refine (KO.out _).mono ?_
    rintro e w4 ⟨v, rfl, hv, hb4⟩
    have hb := hb3'.trans (hb4.mono hb3'.size)
    have KA := Lib.hid (add_new HS2.out (by omega) (by omega) hb hv hb3'.size)
    have HB3 := Lib.hid (HB2.out.trans (hb.mono HS2.out.sizes.1))
    clear hv hb3 hb4 hb hb3'
    go_wp2_with fail
    refine KA.out.mono ?_
    rintro e w5 hpost
    obtain ⟨rfl, hnx⟩ := nxt_ok HB3.out hpost (show k < k1 from by omega) hk1 HST.out HBN.out
    go_wp2
    go_end0
    exact hnx
theorem next_any {B D : Nat} {w : World} {s : ByteArray} {k : Nat} {low : List Lv} {top : Lv} (hS : StE B D w s k low top) {l0 : List UInt8} (hs : s.size ≤ 65536) (hk : k < s.size) (hst : StkSt l0 low top (tl s k)) (hbn : Bnd k low top) :
    Calls Try.prog 18 #[.pointer (some ⟨D, 0, none⟩)] w (NxtPost B D s l0 k w) := by
  obtain ⟨col, G, cap, vlow, vr, vp, hS⟩ := hS
  by_cases n40 : s[k] = 40
  · exact next_open hS hs hk hst hbn n40
  by_cases n41 : s[k] = 41
  · exact next_close hS hs hk hst hbn n41
  by_cases n124 : s[k] = 124
  · exact next_bar hS hs hk hst hbn n124
  by_cases n42 : s[k] = 42
  · exact next_star hS hs hk hst hbn n42
  by_cases n46 : s[k] = 46
  · exact next_dot hS hs hk hst hbn n46
  by_cases n91 : s[k] = 91
  · exact next_cls hS hs hk hst hbn n91
  exact next_sign hS hs hk hst hbn n40 n41 n124 n42 n46 n91
end Go.Proofs.Ytmkjcbgcikgglaa
/- The landed reader's whole. -/
namespace Go.Proofs.Ytmkjcbgcikgglaa
open Go.RowKit
/-- Thrown: an error by its number. -/
def errE (n : Nat) : Ending := .panicked [{ v := .iface 29 (.int .i64 n), recovered := false }]
def noE (k err : Nat) : Ending := if err = 2 then thr k else errE err
def WhPost (w : World) (rd : RD) (e : Ending) (w' : World) : Prop := Below w.heap.size w w' ∧ match rd with
  | .ok ex => ∃ v, e = .returned v ∧ ReAt (New w.heap.size) w' v ex.rx
  | .no k err => e = noE k err
theorem ref_top {s : ByteArray} {res : PR} {k : Nat} (hs : s.size ≤ 65536) (hres : PX .alt (tl s 0) res) (hk : k ≤ s.size) (h : Ref (tl s 0) (tl s k)) : topR s.size res = .no k 2 := by
  have hbig : ¬ 65536 < s.size := by omega
  have hl : s.size - (tl s k).length = k := by rw [tl_len]; omega
  rcases h with h | ⟨e, hne, h⟩
  · obtain rfl := hres.det h
    unfold topR
    rw [if_neg hbig]
    simp only [hl]
  · obtain rfl := hres.det h
    unfold topR
    rw [if_neg hbig]
    simp only [if_neg hne, hl]
theorem StkSt.end {l0 : List UInt8} {top : Lv} (h : StkSt l0 [] top []) (hp : top.parts ≠ []) : PX .alt l0 (.ok (foldE .alt (top.rows ++ [foldE .seq top.parts])) []) := by
  generalize hq : ([] : List Lv) = q at h
  cases h with
  | base h => exact (h.done hp (notAt_nil _) rfl (notAt_nil _)).2
  | push => simp at hq
theorem StkSt.endNo {l0 : List UInt8} {low : List Lv} {top : Lv} (h : StkSt l0 low top []) (hn : low ≠ [] ∨ top.parts = []) : Ref l0 [] := by
  by_cases hp : top.parts = []
  · exact h.bare hp (notAt_nil _) (notAt_nil _) (notAt_nil _) rfl (.inl (notAt_nil _))
  · rcases hn with hn | hn
    · exact h.ended hp (notAt_nil _) rfl (notAt_nil _) (.inr ⟨hn, notAt_nil _⟩)
    · exact absurd hn hp
/-- The world that the reader begins in. -/
def begW (w : World) (s : ByteArray) : World := ((w.alloc nilBlk).alloc (.cells #[.slice none 0 0, .slice none 0 0] 52)).alloc (.cells #[.string s, .int .i64 0, .slice (some ⟨w.heap.size + 1, 0, none⟩) 1 1] 55)
theorem beg_size (w : World) (s : ByteArray) : (begW w s).heap.size = w.heap.size + 3 := by unfold begW; simp
theorem beg_state (w : World) (s : ByteArray) : StE (w.heap.size + 1) (w.heap.size + 2) (begW w s) s 0 [] ⟨[], []⟩ := by
  refine ⟨fun b => if b = w.heap.size + 1 then 2 else if b = w.heap.size + 2 then 1 else 0, w.heap.size + 1, 1, [], .slice none 0 0, .slice none 0 0, ?_⟩
  have hG : (begW w s).heap[w.heap.size + 1]? = some (.cells #[.slice none 0 0, .slice none 0 0] 52) := (Below.heap_alloc _ _ _ (by simp)).trans (blk_at _ _ (by simp))
  refine ⟨blk_at _ _ (by simp), by omega, by simp, ⟨rfl, .inr ⟨w.heap.size + 1, 1, #[.slice none 0 0, .slice none 0 0], rfl, Nat.le_refl _, hG, Nat.le_refl _, by unfold maxLen; omega, rfl, rfl⟩⟩, by simp, ⟨rfl, fun i hi => absurd hi (by simp)⟩, ⟨RwC.nil _ _ _ _, RwC.nil _ _ _ _⟩, fun b hb => ?_⟩
  rw [beg_size] at hb
  rw [if_neg (by omega), if_neg (by omega)]
theorem beg_box (w : World) (s : ByteArray) : (begW w s).heap[w.heap.size]? = some nilBlk := (Below.heap_alloc _ _ _ (by simp; omega)).trans ((Below.heap_alloc _ _ _ (by simp)).trans (blk_new w _))
theorem beg_below (w : World) (s : ByteArray) : Below w.heap.size w (begW w s) := (((Below.refl _ w).alloc (Nat.le_refl _) _).alloc (by simp) _).alloc (by simp; omega) _
def whInv (s : ByteArray) (w wr : World) : Prop := ∃ k low top, k ≤ s.size ∧ StE (w.heap.size + 1) (w.heap.size + 2) wr s k low top ∧ StkSt (tl s 0) low top (tl s k) ∧ Bnd k low top ∧ Below (w.heap.size + 1) (begW w s) wr
theorem StE.rd {B D : Nat} {w : World} {s : ByteArray} {k : Nat} {low : List Lv} {top : Lv} (h : StE B D w s k low top) : ∃ G cap, RdB w D s k (.slice (some ⟨G, 0, none⟩) (low.length + 1) cap) := by
  obtain ⟨col, G, cap, vlow, vr, vp, h⟩ := h
  exact ⟨G, cap, h.rd⟩
theorem wh_thr {s : ByteArray} {w W w' : World} {rd : RD} {k : Nat} (hr : rd = .no k 2) (hb : Below (w.heap.size + 1) (begW w s) W) (hb' : Below (w.heap.size + 1) W w') : WhPost w rd (thr k) w' := by
  subst hr
  exact ⟨(beg_below w s).trans ((hb.trans hb').mono (by omega)), rfl⟩
set_option maxHeartbeats 4000000 in
theorem rwhole_long {s : ByteArray} (w : World) (res : PR) (hs : 65536 < s.size) :
    Calls Try.prog 15 #[.string s] w (WhPost w (topR s.size res)) := by
  have d0 : decide ((65536 : Int) < (s.size : Int)) = true := decide_eq_true (by omega)
  have hr : topR s.size res = .no 0 3 := by unfold topR; rw [if_pos hs]
  rw [hr]
  clear hr
  go_enter Try.func15, Try.ntmps15
  go_wp2
  exact ⟨rfl, (Below.refl _ w).alloc (Nat.le_refl _) _, rfl⟩
set_option maxHeartbeats 8000000 in
theorem rwhole_any {s : ByteArray} (w : World) (res : PR) (hs : s.size ≤ 65536) (hres : PX .alt (tl s 0) res) :
    Calls Try.prog 15 #[.string s] w (WhPost w (topR s.size res)) := by
  have d0 : decide ((65536 : Int) < (s.size : Int)) = false := decide_eq_false (by omega)
  have HREF := Lib.hid fun k hk h => ref_top (k := k) hs hres hk h
  have HRES := Lib.hid hres
  have hinv : whInv s w (begW w s) := ⟨0, [], _, Nat.zero_le _, beg_state w s, StkSt.start _, ⟨Nat.le_refl _, by simp, by simp, by simp⟩, Below.refl _ _⟩
  have HI := Lib.hid hinv
  unfold begW nilBlk at HI
  clear hres hinv
  generalize hrd : topR s.size res = rd at *
  go_enter Try.func15, Try.ntmps15
  go_wp2_with fail
  go_loopw [] (fun wr => whInv s w wr) (fun wr => s.size - plc (w.heap.size + 2) wr)
  case atStart => exact HI.out
  case round =>
    obtain ⟨k, low, top, hk, hS, hst, hbn, hb⟩ := hrel
    obtain ⟨G, cap, hrd0⟩ := hS.rd
    obtain ⟨c0, c1, c2⟩ := hrd0.cells
    have HS := Lib.hid hS
    have HST := Lib.hid hst
    have HBN := Lib.hid hbn
    have HRD := Lib.hid hrd0
    clear hS hst hbn hrd0 HI
    by_cases hlt : k < s.size
    · have d1 : decide ((k : Int) < (s.size : Int)) = true := decide_eq_true (by omega)
      have KN := Lib.hid (next_any HS.out hs hlt HST.out HBN.out)
      go_wp2_with fail
      refine KN.out.mono ?_
      rintro e w1 ⟨hb1, hcase⟩
      rcases hcase with ⟨rfl, k', low', top', hk', hk2, hS', hst', hbn'⟩ | ⟨k', hk', rfl, href⟩
      · have HI2 := Lib.hid (show whInv s w w1 from ⟨k', low', top', hk2, hS', hst', hbn', hb.trans hb1⟩)
        obtain ⟨G', cap', hr'⟩ := hS'.rd
        have hp1 := hr'.plc
        have hp0 := HRD.out.plc
        clear hS' hst' hbn' hr' hb hb1
        go_wp2
        exact ⟨HI2.out, by rw [hp1, hp0]; omega⟩
      · exact ⟨rfl, wh_thr (hrd ▸ HREF.out k' hk' href) hb hb1⟩
    · have hke : k = s.size := by omega
      subst hke
      have d1 : decide ((s.size : Int) < (s.size : Int)) = false := decide_eq_false (by omega)
      have hnil : tl s s.size = [] := tl_nil s _ (Nat.le_refl _)
      by_cases hno : low ≠ [] ∨ top.parts = []
      · have HRF := Lib.hid (HREF.out s.size (Nat.le_refl _) (by rw [hnil]; exact (hnil ▸ HST.out).endNo hno))
        by_cases hl : low = []
        · subst hl
          have hp : top.parts = [] := by
            rcases hno with h | h
            · exact absurd rfl h
            · exact h
          obtain ⟨rows, parts⟩ := top
          simp only at hp
          subst hp
          obtain ⟨col, G1, cap1, vlow, vr, vp, hSC⟩ := HS.out
          have KE := Lib.hid (expr_no hSC (by simp))
          have KM := Lib.hid must_yes
          simp only [List.length_nil, Nat.zero_add] at c2
          clear hSC hno
          go_wp2_with fail
          refine (KM.out _ _).mono ?_
          rintro e w1 ⟨rfl, rfl⟩
          go_wp2_with fail
          refine KE.out.mono ?_
          rintro e w2 ⟨rfl, hb2⟩
          exact ⟨rfl, wh_thr (hrd ▸ HRF.out) hb hb2⟩
        · have hpos : 0 < low.length := List.length_pos_iff.2 hl
          have q1 : ((low.length : Int) + 1 == 1) = false := by simp; omega
          have KM := Lib.hid (must_no HRD.out)
          clear hno hl
          go_wp2_with fail
          refine KM.out.mono ?_
          rintro e w2 ⟨rfl, rfl⟩
          exact ⟨rfl, wh_thr (hrd ▸ HRF.out) hb (Below.refl _ _)⟩
      · have hl : low = [] := Classical.byContradiction fun h => hno (.inl h)
        have hp : top.parts ≠ [] := fun h => hno (.inr h)
        subst hl
        have hend := (hnil ▸ HST.out).end hp
        obtain rfl := HRES.out.det hend
        have hfe := hend.fact
        obtain ⟨col, G1, cap1, vlow, vr, vp, hSC⟩ := HS.out
        have hbnr := HBN.out.2.2.1
        have hbnp := HBN.out.2.2.2
        have KE := Lib.hid (expr_yes hSC (by simp) (by omega) (by omega) hp)
        have KM := Lib.hid must_yes
        have hrd' : topR s.size (.ok (foldE .alt (top.rows ++ [foldE .seq top.parts])) []) = if (foldE .alt (top.rows ++ [foldE .seq top.parts])).size ≤ 2000 then .ok (foldE .alt (top.rows ++ [foldE .seq top.parts])) else .no 0 4 := by
          unfold topR
          rw [if_neg (by omega)]
          simp
        have hgood := good_ex _ hfe.1
        simp only [List.length_nil, Nat.zero_add] at c2
        rw [hrd'] at hrd
        have HRD2 := Lib.hid hrd
        have hbx : wr.heap[w.heap.size]? = some nilBlk := (hb.block _ (by omega)).trans (beg_box w s)
        have HBX := Lib.hid hbx
        clear hSC hno hend hfe hrd' hrd HREF HRES HST HBN hp hbx
        generalize foldE .alt (top.rows ++ [foldE .seq top.parts]) = FE at *
        go_wp2_with fail
        refine (KM.out _ _).mono ?_
        rintro e w1 ⟨rfl, rfl⟩
        go_wp2_with fail
        refine KE.out.mono ?_
        rintro e w2 ⟨col2, G2, cap2, vlow2, vr2, vp2, y0, y1, y2, y3, y4, yl, yn, yc, rfl, hb2, hf2, hS2, hre2⟩
        have HB2 := Lib.hid (hb.trans hb2)
        have HRE := Lib.hid (hre2.imp (ok' := New (w.heap.size + 1)) fun b _ h => h.1)
        have hbx2 := (hb2.block w.heap.size (by omega)).trans HBX.out
        have HBX2 := Lib.hid hbx2
        have hlt2 : w.heap.size < w2.heap.size := (Array.getElem?_eq_some_iff.1 hbx2).1
        have hbig2 : w.heap.size + 1 ≤ w2.heap.size := hlt2
        clear hb2 hf2 hS2 hre2 hbx2 c0 c1 c2
        have hbb : Below w2.heap.size w2 ((w2.alloc (.cells #[.int .u8 y0, .int .u64 y1, .int .u64 y2, .int .u64 y3, .int .u64 y4, .slice yl yn yc] 28)).alloc (.cells #[.int .u8 y0, .int .u64 y1, .int .u64 y2, .int .u64 y3, .int .u64 y4, .slice yl yn yc] 28)) := ((Below.refl _ w2).alloc (Nat.le_refl _) _).alloc (by simp) _
        have KY := Lib.hid (mayX (ok := fun _ => True) [FE.rx] (some ⟨w2.heap.size + 1, 0, none⟩) 1 ((w2.alloc (.cells #[.int .u8 y0, .int .u64 y1, .int .u64 y2, .int .u64 y3, .int .u64 y4, .slice yl yn yc] 28)).alloc (.cells #[.int .u8 y0, .int .u64 y1, .int .u64 y2, .int .u64 y3, .int .u64 y4, .slice yl yn yc] 28)) (by simp) (row_one (blk_at _ _ (by simp)) trivial ((HRE.out.below hbb).imp fun _ _ _ => trivial)))
        rw [show [FE.rx].all mayR = decide (FE.size ≤ 2000) from by simp [mayR, mayN, hgood, Ex.size_rx], show [FE.rx].length = 1 from rfl] at KY
        have HBB := Lib.hid hbb
        have HBL := Lib.hid (show ((w2.alloc (.cells #[.int .u8 y0, .int .u64 y1, .int .u64 y2, .int .u64 y3, .int .u64 y4, .slice yl yn yc] 28)).alloc (.cells #[.int .u8 y0, .int .u64 y1, .int .u64 y2, .int .u64 y3, .int .u64 y4, .slice yl yn yc] 28)).heap[w2.heap.size]? = some (.cells #[.int .u8 y0, .int .u64 y1, .int .u64 y2, .int .u64 y3, .int .u64 y4, .slice yl yn yc] 28) from (Below.heap_alloc _ _ _ (by simp)).trans (blk_new w2 _))
        clear hbb hgood
        by_cases hsm : FE.size ≤ 2000
        · rw [if_pos hsm] at HRD2
          rw [decide_eq_true hsm] at KY
          clear hsm
          go_wp2_with fail
          refine KY.out.mono ?_
          rintro e w3 ⟨rfl, hb3⟩
          have hb23 := HBB.out.trans (hb3.mono HBB.out.size)
          have hr3 := (hb3.block w2.heap.size (by simp; omega)).trans HBL.out
          have hbx3 := (hb23.block w.heap.size hlt2).trans HBX2.out
          obtain ⟨a0, a1, a2, a3, a4, a5, -⟩ := cellsR hr3
          obtain ⟨g0, g1, g2, g3, g4, g5, p0, p1, p2, p3, p4, p5⟩ := cellsR hbx3
          have HP := Lib.hid (putR hbx3 (.int .u8 y0) (.int .u64 y1) (.int .u64 y2) (.int .u64 y3) (.int .u64 y4) (.slice yl yn yc))
          have HEND := Lib.hid (show WhPost w rd (.returned (.agg #[.int .u8 y0, .int .u64 y1, .int .u64 y2, .int .u64 y3, .int .u64 y4, .slice yl yn yc])) (putW w3 w.heap.size (.int .u8 y0) (.int .u64 y1) (.int .u64 y2) (.int .u64 y3) (.int .u64 y4) (.slice yl yn yc)) from by
            rw [← HRD2.out]
            refine ⟨putB ((beg_below w s).trans ((HB2.out.mono (by omega)).trans (hb23.mono (by omega)))) (Nat.le_refl _) _ _ _ _ _ _, _, rfl, ?_⟩
            exact (HRE.out.below hb23).go ⟨by rw [putW_size]; exact Nat.le_refl _, fun b _ h => ⟨Nat.le_of_succ_le h, putW_other _ _ _ _ _ _ _ _ (by have h' : w.heap.size + 1 ≤ b := h; omega)⟩⟩)
          unfold putW at HP HEND
          clear hb3 hb23 hr3 hbx3
          go_wp2
          exact ret_re HP.out Try.results15 rfl rfl HEND.out
        · rw [if_neg hsm] at HRD2
          rw [decide_eq_false hsm] at KY
          clear hsm
          go_wp2_with fail
          refine KY.out.mono ?_
          rintro e w3 ⟨rfl, hb3⟩
          have hb23 := HBB.out.trans (hb3.mono HBB.out.size)
          have HEND := Lib.hid (show WhPost w rd (errE 4) w3 from by
            rw [← HRD2.out]
            exact ⟨(beg_below w s).trans ((HB2.out.mono (by omega)).trans (hb23.mono (by omega))), rfl⟩)
          clear hb3 hb23
          go_wp2
          exact ⟨rfl, HEND.out⟩
end Go.Proofs.Ytmkjcbgcikgglaa
/- The landed Read. -/
namespace Go.Proofs.Ytmkjcbgcikgglaa
open Go.RowKit
/-- Read's three results' boxes. -/
def rdW (w : World) : World := ((w.alloc nilBlk).alloc (.cells #[.int .i64 0] 3)).alloc (.cells #[.int .i64 0] 29)
set_option maxRecDepth 100000 in
set_option maxHeartbeats 4000000 in
theorem read_res {s : ByteArray} (w : World) (rd : RD) (hk0 : ∀ k err, rd = .no k err → err ≠ 2 → k = 0) (hw : Calls Try.prog 15 #[.string s] (rdW w) (WhPost (rdW w) rd)) :
    Calls Try.prog 8 #[.string s] w (RdPost w rd) := by
  have hmf : ∀ (fn : Fn) (first cap : Array Value) (w : World), (Instr.makeFunc fn first cap).run Try.prog w = .ok (.func fn first cap) w := fun _ _ _ _ => rfl
  have HW := Lib.hid hw
  have HK0 := Lib.hid hk0
  unfold rdW nilBlk at HW
  clear hw hk0
  go_enter_defers Try.func8, Try.ntmps8
  go_wp2_with fail
  refine HW.out.mono ?_
  rintro e w1 ⟨hb1, hc⟩
  have hbw : Below w.heap.size w w1 := (show Below w.heap.size w (rdW w) from (((Below.refl _ w).alloc (Nat.le_refl _) _).alloc (by simp) _).alloc (by simp; omega) _).trans (hb1.mono (by simp; omega))
  have hx0 : w1.heap[w.heap.size]? = some nilBlk := (hb1.block _ (by simp; omega)).trans ((Below.heap_alloc _ _ _ (by simp; omega)).trans ((Below.heap_alloc _ _ _ (by simp)).trans (blk_new w _)))
  have hx1 : w1.heap[w.heap.size + 1]? = some (.cells #[.int .i64 0] 3) := (hb1.block _ (by simp)).trans ((Below.heap_alloc _ _ _ (by simp)).trans (blk_at _ _ (by simp)))
  have hx2 : w1.heap[w.heap.size + 1 + 1]? = some (.cells #[.int .i64 0] 29) := (hb1.block _ (by simp)).trans (blk_at _ _ (by simp))
  obtain ⟨g0, g1, g2, g3, g4, g5, p0, p1, p2, p3, p4, p5⟩ := cellsR hx0
  have a0 : w1.cell? ⟨w.heap.size + 1, 0, none⟩ = some (.int .i64 0) := by rw [Lib.cell_of_heap hx1]; rfl
  have b0 : w1.cell? ⟨w.heap.size + 1 + 1, 0, none⟩ = some (.int .i64 0) := by rw [Lib.cell_of_heap hx2]; rfl
  have a1 : w1.frozen? ⟨w.heap.size + 1, 0, none⟩ = false := Lib.frozen_of_heap hx1 0
  have b1 : w1.frozen? ⟨w.heap.size + 1 + 1, 0, none⟩ = false := Lib.frozen_of_heap hx2 0
  have n1 : ¬ w.heap.size = w.heap.size + 1 := by omega
  have n2 : ¬ w.heap.size = w.heap.size + 1 + 1 := by omega
  have n3 : ¬ w.heap.size + 1 = w.heap.size + 1 + 1 := by omega
  have HBW := Lib.hid hbw
  cases rd with
  | ok ex =>
    obtain ⟨v, rfl, hv⟩ := hc
    obtain ⟨y0, y1, y2, y3, y4, yl, yn, yc, rfl⟩ := cells_re hv
    have hre : ReAt (New w.heap.size) (((putW w1 w.heap.size (.int .u8 y0) (.int .u64 y1) (.int .u64 y2) (.int .u64 y3) (.int .u64 y4) (.slice yl yn yc)).setCell ⟨w.heap.size + 1, 0, none⟩ (.int .i64 0)).setCell ⟨w.heap.size + 1 + 1, 0, none⟩ (.int .i64 0)) (.agg #[.int .u8 y0, .int .u64 y1, .int .u64 y2, .int .u64 y3, .int .u64 y4, .slice yl yn yc]) ex.rx :=
      hv.go ⟨by simp [World.setCell, putW_size], fun b _ h => by
        have h' : w.heap.size + 3 ≤ b := by have h2 := h; unfold New at h2; simp at h2; omega
        exact ⟨by show w.heap.size ≤ b; omega, (Below.heap_setCell _ _ _ _ (by show b ≠ w.heap.size + 1 + 1; omega)).trans ((Below.heap_setCell _ _ _ _ (by show b ≠ w.heap.size + 1; omega)).trans (putW_other _ _ _ _ _ _ _ _ (by omega)))⟩⟩
    have HRE := Lib.hid hre
    have HB2 := Lib.hid (((putB hbw (Nat.le_refl _) (.int .u8 y0) (.int .u64 y1) (.int .u64 y2) (.int .u64 y3) (.int .u64 y4) (.slice yl yn yc)).setCell (p := ⟨w.heap.size + 1, 0, none⟩) (by show w.heap.size ≤ w.heap.size + 1; omega) (.int .i64 0)).setCell (p := ⟨w.heap.size + 1 + 1, 0, none⟩) (by show w.heap.size ≤ w.heap.size + 1 + 1; omega) (.int .i64 0))
    have HP := Lib.hid (putR hx0 (.int .u8 y0) (.int .u64 y1) (.int .u64 y2) (.int .u64 y3) (.int .u64 y4) (.slice yl yn yc))
    unfold putW at HRE HB2 HP
    clear hv hb1 hbw hre hx0 hx1 hx2 HW
    go_wp2
    refine leaves_cons (f := 14) (args := #[.pointer (some ⟨w.heap.size + 1, 0, none⟩), .pointer (some ⟨w.heap.size + 1 + 1, 0, none⟩)]) (by simp) (by simp [go_sem]) ?_
    refine (catch_idle ⟨w.heap.size + 1, 0, none⟩ ⟨w.heap.size + 1 + 1, 0, none⟩ _).mono ?_
    rintro e u' w'' ⟨rfl, rfl, rfl⟩
    simp [Leaves, settle, results, Try.results8, go_sem, g0, g1, g2, g3, g4, g5, a0, b0]
    exact ⟨HB2.out, _, rfl, HRE.out⟩
  | no k err =>
    simp only at hc
    subst hc
    unfold noE
    by_cases he : err = 2
    · subst he
      rw [if_pos rfl]
      unfold thr
      clear hb1 hbw hx0 hx1 hx2 HW
      go_wp2
      refine leaves_cons (f := 14) (args := #[.pointer (some ⟨w.heap.size + 1, 0, none⟩), .pointer (some ⟨w.heap.size + 1 + 1, 0, none⟩)]) (by simp) (by simp [go_sem]) ?_
      refine (catch_form (w.heap.size + 1) (w.heap.size + 1 + 1) k _ _ [] _ a0 b0 a1 b1 n3).mono ?_
      rintro e u' w'' ⟨rfl, rfl, rfl⟩
      simp [Leaves, settle, results, Try.results8, go_sem, g0, g1, g2, g3, g4, g5, a0, b0]
      exact ⟨(HBW.out.setCell (p := ⟨w.heap.size + 1, 0, none⟩) (by show w.heap.size ≤ w.heap.size + 1; omega) _).setCell (p := ⟨w.heap.size + 1 + 1, 0, none⟩) (by show w.heap.size ≤ w.heap.size + 1 + 1; omega) _, rfl⟩
    · obtain rfl := HK0.out k err rfl he
      rw [if_neg he]
      unfold errE
      clear hb1 hbw hx0 hx1 hx2 HW
      go_wp2
      refine leaves_cons (f := 14) (args := #[.pointer (some ⟨w.heap.size + 1, 0, none⟩), .pointer (some ⟨w.heap.size + 1 + 1, 0, none⟩)]) (by simp) (by simp [go_sem]) ?_
      refine (catch_err (w.heap.size + 1) (w.heap.size + 1 + 1) err _ [] _ b0 b1).mono ?_
      rintro e u' w'' ⟨rfl, rfl, rfl⟩
      simp [Leaves, settle, results, Try.results8, go_sem, g0, g1, g2, g3, g4, g5, a0, b0]
      exact ⟨HBW.out.setCell (p := ⟨w.heap.size + 1 + 1, 0, none⟩) (by show w.heap.size ≤ w.heap.size + 1 + 1; omega) _, rfl⟩
theorem topR_zero (n : Nat) (res : PR) : ∀ k err, topR n res = .no k err → err ≠ 2 → k = 0 := by
  intro k err h he
  unfold topR at h
  split at h
  · cases h; rfl
  · cases res with
    | bad r => simp only [RD.no.injEq] at h; exact absurd h.2.symm he
    | ok e l =>
      simp only at h
      split at h
      · split at h
        · cases h
        · cases h; rfl
      · simp only [RD.no.injEq] at h; exact absurd h.2.symm he
theorem read_any (s : ByteArray) (w : World) (_hs : s.size ≤ 1000000000) {res : PR} (hres : PX .alt s.data.toList res) : Calls Try.prog 8 #[.string s] w (RdPost w (topR s.size res)) := by
  refine read_res w _ (topR_zero s.size res) ?_
  by_cases h : 65536 < s.size
  · exact rwhole_long _ res h
  · exact rwhole_any _ res (by omega) hres
end Go.Proofs.Ytmkjcbgcikgglaa
/- The landed All and Form; package read's contracts. -/
namespace Go.Proofs.Ytmkjcbgcikgglaa
open Go.RowKit
theorem readC : ReadC := fun s w hs => read_any s w hs (resOf_px s)
theorem rd_no_err {s : ByteArray} {k err : Nat} (h : rdOf s = .no k err) : err ≠ 0 := by
  unfold rdOf topR at h
  split at h
  · cases h; decide
  · cases hr : resOf s with
    | bad r => rw [hr] at h; simp only [RD.no.injEq] at h; omega
    | ok e l =>
      rw [hr] at h
      simp only at h
      split at h
      · split at h
        · cases h
        · cases h; decide
      · simp only [RD.no.injEq] at h; omega
/-- From B on, and not where the row itself lies. -/
def Kq (B : Nat) (v : Value) (b : Nat) : Prop := B ≤ b ∧ v.ownBlock ≠ some b
def RowP (B : Nat) (w : World) (v : Value) (ps : List Ex) : Prop := ∃ xs, w.ownsRow B 28 6 v ps.length xs ∧ RowVals (Kq B v) w xs (ps.map Ex.rx)
theorem RowP.below {B : Nat} {w w' : World} {v : Value} {ps : List Ex} (h : RowP B w v ps) (hb : Below w.heap.size w w') : RowP B w' v ps := by
  obtain ⟨xs, h1, h2⟩ := h
  exact ⟨xs, ownR_below h1 hb, h2.go (keptB hb _)⟩
theorem RowP.row {B : Nat} {w : World} {v : Value} {ps : List Ex} (h : RowP B w v ps) : ∃ al cap, v = .slice al ps.length cap ∧ ps.length ≤ cap ∧ RowAt (New B) w al (ps.map Ex.rx) := by
  obtain ⟨xs, h1, h2⟩ := h
  have hl : (ps.map Ex.rx).length = ps.length := List.length_map ..
  rw [← hl] at h1
  obtain ⟨al, cap, e1, e2, e3⟩ := row_of_own h1 h2
  rw [hl] at e1 e2
  refine ⟨al, cap, e1, e2, e3.imp fun b _ h => ?_⟩
  rcases h with h | h
  · exact h.1
  · exact h
theorem RowP.push {B g cap : Nat} {w wA w4 : World} {v : Value} {ps : List Ex} {e : Ex} {c0 c1 c2 c3 c4 c5 : Value} {xs : List Value} (hv : RowVals (Kq B v) w xs (ps.map Ex.rx)) (he : ReAt (Kq B v) w (.agg #[c0, c1, c2, c3, c4, c5]) e.rx) (hA : Below w.heap.size w wA) (hown : w4.ownsRow B 28 6 (.slice (some ⟨g, 0, none⟩) (ps.length + 1) cap) (ps.length + 1) (xs ++ [c0, c1, c2, c3, c4, c5])) (hgrow : wA.grownBy w4 v.ownBlock)
    (hat : v.ownBlock = some g ∨ g = wA.heap.size) : RowP B w4 (.slice (some ⟨g, 0, none⟩) (ps.length + 1) cap) (ps ++ [e]) := by
  have hkept : Kept (Kq B v) (Kq B (.slice (some ⟨g, 0, none⟩) (ps.length + 1) cap)) w w4 := by
    refine ⟨Nat.le_trans hA.size hgrow.size, fun b h1 h2 => ⟨⟨h2.1, ?_⟩, ?_⟩⟩
    · intro e'
      simp [Value.ownBlock] at e'
      rcases hat with h | h
      · exact h2.2 (by rw [← e']; exact h)
      · have := hA.size; omega
    · exact (hgrow.block b (Nat.lt_of_lt_of_le h1 hA.size) (fun e' => h2.2 e'.symm)).trans (hA.block b h1)
  refine ⟨xs ++ [c0, c1, c2, c3, c4, c5], by simpa using hown, ?_⟩
  rw [List.map_append]
  exact (hv.go hkept).append ((RowVals.one he).go hkept)
/-- What All answers. -/
def RAllPost (L : List ByteArray) (w : World) (e : Ending) (w' : World) : Prop := Below w.heap.size w w' ∧
  ((∃ (ps : List Ex) (al : Option Addr) (cap : Nat), L.map rdOf = ps.map RD.ok ∧ e = .returned (.tuple #[.slice al ps.length cap, .int .i64 0, .int .i64 0]) ∧ ps.length ≤ cap ∧ RowAt (New w.heap.size) w' al (ps.map Ex.rx)) ∨
   (∃ (i k err : Nat) (ps : List Ex) (h : i < L.length), (L.take i).map rdOf = ps.map RD.ok ∧ rdOf L[i] = .no k err ∧ err ≠ 0 ∧ e = .returned (.tuple #[.slice none 0 0, .int .i64 (i : Int), .int .i64 (err : Int)])))
def rallInv (L : List ByteArray) (w : World) (vi vo : Value) (wr : World) : Prop := ∃ (k : Nat) (ps : List Ex), vi = .int .i64 k ∧ k ≤ L.length ∧ (L.take k).map rdOf = ps.map RD.ok ∧ RowP w.heap.size wr vo ps ∧ Below w.heap.size w wr
theorem ret_three {fn : Func} {R : Ending → World → Prop} {a : Act} {W : World} {k i j : Nat} {x y z : Value} (hres : fn.results = #[.tmp k, .tmp i, .tmp j]) (hx : a.tmps.getD k undef = x) (hy : a.tmps.getD i undef = y) (hz : a.tmps.getD j undef = z) (hd : a.defers = []) (hR : R (.returned (.tuple #[x, y, z])) W) : bodyPost Try.prog fn R .ret a W := by
  subst hx hy hz
  refine bodyPost_ret (v := .tuple #[a.tmps.getD k undef, a.tmps.getD i undef, a.tmps.getD j undef]) ?_ hd hR
  simp [results, hres, go_sem]
set_option maxHeartbeats 8000000 in
theorem rall_any (L : List ByteArray) (al : Option Addr) (cap : Nat) (w : World) (hL : L.length ≤ 20) (hsz : ∀ s ∈ L, s.size ≤ 1000000000) (hA : StrsAt w al L) :
    Calls Try.prog 12 #[.slice al L.length cap] w (RAllPost L w) := by
  obtain ⟨i0, z0, hi0, hz0, hz1, hz2, hz3⟩ := infoR2
  have hz2' := Lib.hid hz2
  have HA := Lib.hid hA
  have HSZ := Lib.hid hsz
  clear hz2 hA hsz
  go_enter Try.func12, Try.ntmps12
  go_wp2_with (refine wpList_make_own _ rfl _ _ 26 rfl w.heap.size 28 i0 z0 6 Try.underlying26 hi0 hz0 hz1 .i64 .i64 (L.length : Int) L.length rfl rfl rfl (by rw [hz2'.out]; omega) (by unfold maxLen; omega) (Nat.le_refl _) ?_)
  intro w0 hown0 hg0
  have hb0 : Below w.heap.size w w0 := (Below.refl _ w).grown hg0 (Nat.le_refl _) (fun k h => by cases h)
  have HI := Lib.hid (show rallInv L w (.int .i64 0) (.slice (some ⟨w.heap.size, 0, none⟩) 0 L.length) w0 from ⟨0, [], rfl, Nat.zero_le _, rfl, ⟨[], hown0, RowVals.nil _ _⟩, hb0⟩)
  clear hown0 hg0 hb0
  go_wp2_with fail
  go_loopw [16, 5] (fun vi vo wr => rallInv L w vi vo wr) (fun vi _ _ => L.length - (intOf vi).toNat)
  case atStart => exact HI.out
  case round =>
    obtain ⟨k, ps, rfl, hk, heq, hrow, hb⟩ := hrel
    have hpl : ps.length = k := by
      have := congrArg List.length heq
      simp at this; omega
    have HPL := Lib.hid hpl
    clear hpl
    have HEQ := Lib.hid heq
    have HROW := Lib.hid hrow
    have HB := Lib.hid hb
    clear heq hrow hb HI
    by_cases hlt : k < L.length
    · obtain ⟨b, off, hal, hblt, hc⟩ : ∃ b off, al = some ⟨b, off, none⟩ ∧ b < w.heap.size ∧ w.cell? ⟨b, off + k, none⟩ = some (.string L[k]) := by
        rcases HA.out with h | ⟨b, off, h1, h2, h3⟩
        · rw [h] at hlt; simp at hlt
        · exact ⟨b, off, h1, h2, h3 k hlt⟩
      subst hal
      have hcell : wr.cell? ⟨b, off + k, none⟩ = some (.string L[k]) := by rw [HB.out.cell (p := ⟨b, off + k, none⟩) hblt]; exact hc
      have KR := Lib.hid fun W => readC L[k] W (HSZ.out _ (List.getElem_mem hlt))
      have q1 : (k : Int) < (L.length : Int) := by omega
      have d1 : decide ((k : Int) < (L.length : Int)) = true := decide_eq_true q1
      have htk : (L.take (k + 1)).map rdOf = (L.take k).map rdOf ++ [rdOf L[k]] := by rw [List.take_succ_eq_append_getElem hlt, List.map_append]; rfl
      have HTK := Lib.hid htk
      clear hc htk
      cases hrd : rdOf L[k] with
      | no kk err =>
        have herr := rd_no_err hrd
        have HRD := Lib.hid hrd
        rw [hrd] at KR
        have q2 : ((err : Int) != 0) = true := by simp; omega
        have q3 : ((err : Int) == 0) = false := by simp; omega
        have q4 : (err == 0) = false := by simp; omega
        clear hrd
        generalize hsk : L[k] = sk at *
        have HSK := Lib.hid hsk
        clear hsk
        go_wp2_with fail
        refine (KR.out _).mono ?_
        rintro e w1 ⟨hb1, he⟩
        simp only at he
        subst he
        unfold zeroRe
        have hb := HB.out.trans (hb1.mono HB.out.size)
        clear hb1
        go_wp2
        refine ret_three Try.results12 rfl rfl rfl rfl ⟨hb.alloc hb.size _, .inr ⟨k, kk, err, ps, hlt, HEQ.out, ?_, herr, rfl⟩⟩
        rw [HSK.out]
        exact HRD.out
      | ok ex =>
        have HEQ2 := Lib.hid (show (L.take (k + 1)).map rdOf = (ps ++ [ex]).map RD.ok from by rw [HTK.out, HEQ.out, hrd]; simp)
        rw [hrd] at KR
        clear hrd HTK HEQ
        generalize L[k] = sk at *
        go_wp2_with fail
        refine (KR.out _).mono ?_
        rintro e w1 ⟨hb1, v, he, hv⟩
        subst he
        obtain ⟨y0, y1, y2, y3, y4, yl, yn, yc, rfl⟩ := cells_re hv
        have hb := HB.out.trans (hb1.mono HB.out.size)
        obtain ⟨xs, hown, hvals⟩ := HROW.out.below hb1
        have hvq : ReAt (Kq w.heap.size u5) w1 (.agg #[.int .u8 y0, .int .u64 y1, .int .u64 y2, .int .u64 y3, .int .u64 y4, .slice yl yn yc]) ex.rx := hv.imp fun b _ h => ⟨Nat.le_trans HB.out.size h, fun e => by
          obtain ⟨xs', h1, _⟩ := HROW.out
          have h2 := (h1.lt b e).2
          have h3 : wr.heap.size ≤ b := h
          omega⟩
        have HOW := Lib.hid hown
        have HVA := Lib.hid hvals
        have HVQ := Lib.hid hvq
        have HB1 := Lib.hid hb
        have hws := hb.size
        clear hown hvals hvq hb hb1 hv
        go_wp2_with (at_builtin; refine wpList_append_lies _ rfl _ _ 26 rfl w.heap.size 28 i0 z0 6 64 Try.underlying26 hi0 hz0 hz1 hz2'.out hz3 (by decide) _ _ _ rfl ((HOW.out.alloc _).alloc _) ⟨w1.heap.size + 1, 0, none⟩ 1 1 [.int .u8 y0, .int .u64 y1, .int .u64 y2, .int .u64 y3, .int .u64 y4, .slice yl yn yc] rfl rfl ?c1 ?c2 (by decide) ?c3 ?c4 ?c5 _ rfl ?_)
        case c1 => exact six_at _ (by simp) _ _ _ _ _ _
        case c2 => intro u hu; simp at hu; rcases hu with rfl | rfl | rfl | rfl | rfl | rfl <;> rfl
        case c3 => have := HPL.out; unfold maxLen; omega
        case c4 => have := HPL.out; omega
        case c5 => simp; omega
        intro g' cap' w4 hown' hgrow hat hlt'
        have hAA : Below w1.heap.size w1 ((w1.alloc (.cells #[.int .u8 y0, .int .u64 y1, .int .u64 y2, .int .u64 y3, .int .u64 y4, .slice yl yn yc] 28)).alloc (.cells #[.int .u8 y0, .int .u64 y1, .int .u64 y2, .int .u64 y3, .int .u64 y4, .slice yl yn yc] 28)) := ((Below.refl _ w1).alloc (Nat.le_refl _) _).alloc (by simp) _
        have hP := RowP.push HVA.out HVQ.out hAA hown' hgrow (by simpa using hat)
        have hb4 : Below w.heap.size w w4 := Below.grown (HB1.out.trans (hAA.mono hws)) hgrow (Nat.le_trans hws hAA.size) (fun g hg => (HOW.out.lt g hg).1)
        have HI2 := Lib.hid (show rallInv L w (.int .i64 ((k + 1 : Nat) : Int)) (.slice (some ⟨g', 0, none⟩) (ps.length + 1) cap') w4 from ⟨k + 1, ps ++ [ex], rfl, by omega, HEQ2.out, hP, hb4⟩)
        have wk : IntKind.i64.wrap ((k : Int) + 1) = (k : Int) + 1 := by rw [IntKind.wrap_i64]; omega
        clear hP hb4 hAA hown' hgrow hat HOW HVA HVQ
        go_wp2
        exact ⟨HI2.out, by simp [intOf]; omega⟩
    · have hke : k = L.length := by omega
      subst hke
      have d1 : decide ((L.length : Int) < (L.length : Int)) = false := decide_eq_false (by omega)
      have heq := HEQ.out
      rw [List.take_of_length_le (Nat.le_refl _)] at heq
      obtain ⟨al', cap', rfl, hcp, hra⟩ := HROW.out.row
      have HEND := Lib.hid (show RAllPost L w (.returned (.tuple #[.slice al' ps.length cap', .int .i64 0, .int .i64 0])) wr from ⟨HB.out, .inl ⟨ps, al', cap', heq, rfl, hcp, hra⟩⟩)
      clear heq hra HEQ HROW
      go_wp2
      exact ret_three Try.results12 rfl rfl rfl rfl HEND.out
theorem rall_ok {L : List ByteArray} {ps : List Ex} (h : L.map rdOf = ps.map RD.ok) : (L.all fun s => (rdOf s).isOk) = true := by
  rw [List.all_eq_true]
  intro s hs
  have h1 : rdOf s ∈ L.map rdOf := List.mem_map_of_mem hs
  rw [h] at h1
  obtain ⟨e, _, he⟩ := List.mem_map.1 h1
  rw [← he]; rfl
theorem rall_no {L : List ByteArray} {i k err : Nat} (h : i < L.length) (hr : rdOf L[i] = .no k err) : (L.all fun s => (rdOf s).isOk) = false := by
  rw [List.all_eq_false]
  exact ⟨L[i], List.getElem_mem h, by rw [hr]; simp [RD.isOk]⟩
set_option maxHeartbeats 2000000 in
theorem formC : FormC := by
  intro L al cap w hL hsz hA
  have KA := Lib.hid (rall_any L al cap w hL hsz hA)
  clear hA hsz
  generalize hq : (L.all fun s => (rdOf s).isOk) = q at *
  have HQ := Lib.hid hq
  clear hq
  go_enter Try.func11, Try.ntmps11
  go_wp2_with fail
  refine KA.out.mono ?_
  rintro e w1 ⟨hb, hc⟩
  rcases hc with ⟨ps, al', cap', heq, rfl, -, -⟩ | ⟨i, k, err, ps, hi, -, hr, herr, rfl⟩
  · have hq : q = true := by rw [← HQ.out]; exact rall_ok heq
    subst hq
    clear heq HQ
    go_wp2
    go_ret
    exact ⟨rfl, hb⟩
  · have hq : q = false := by rw [← HQ.out]; exact rall_no hi hr
    subst hq
    have q3 : ((err : Int) == 0) = false := by simp; omega
    have q4 : (err == 0) = false := by simp; omega
    clear hr HQ
    go_wp2
    go_ret
    exact ⟨rfl, hb⟩
end Go.Proofs.Ytmkjcbgcikgglaa
/- quilllaw06.ReadAll, walked. -/
namespace Go.Proofs.Ytmkjcbgcikgglaa
open Go.RowKit
/-- The first error: which one, and its number. -/
def feR : List RD → Option (Nat × Nat)
  | [] => none
  | .ok _ :: t => (feR t).map fun p => (p.1 + 1, p.2)
  | .no _ err :: _ => some (0, err)
theorem feR_ok (ps : List Ex) : feR (ps.map RD.ok) = none := by
  induction ps with
  | nil => rfl
  | cons e t ih => simp [feR, ih]
theorem feR_snoc (r : RD) : ∀ l : List RD, feR (l ++ [r]) = match feR l with
    | some x => some x
    | none => match r with
      | .ok _ => none
      | .no _ err => some (l.length, err)
  | [] => by cases r <;> rfl
  | .no k err :: t => rfl
  | .ok e :: t => by
    have ih := feR_snoc r t
    simp only [List.cons_append, feR, ih]
    cases feR t with
    | some x => rfl
    | none => cases r <;> rfl
theorem feR_first (ps : List Ex) (k err : Nat) (t : List RD) : feR (ps.map RD.ok ++ .no k err :: t) = some (ps.length, err) := by
  induction ps with
  | nil => rfl
  | cons e u ih => simp [feR, ih]
theorem fe_one {L : List ByteArray} {ps : List Ex} (h : L.map rdOf = ps.map RD.ok) : feR (L.map rdOf) = none := by rw [h]; exact feR_ok ps
theorem fe_two {L : List ByteArray} {ps : List Ex} {i k err : Nat} (hi : i < L.length) (h : (L.take i).map rdOf = ps.map RD.ok) (hr : rdOf L[i] = .no k err) : feR (L.map rdOf) = some (i, err) := by
  have e1 : L.map rdOf = ps.map RD.ok ++ .no k err :: (L.drop (i + 1)).map rdOf := by
    rw [← h, ← hr, ← List.map_cons, ← List.map_append]
    congr 1
    rw [← List.drop_eq_getElem_cons hi, List.take_append_drop]
  have e2 : ps.length = i := by
    have := congrArg List.length h
    simp at this; omega
  rw [e1, feR_first, e2]
theorem fe_all {L : List ByteArray} : (L.all fun s => (rdOf s).isOk) = (feR (L.map rdOf)).isNone := by
  induction L with
  | nil => rfl
  | cons s t ih =>
    simp only [List.all_cons, List.map_cons, ih]
    cases rdOf s with
    | ok e => simp [RD.isOk, feR]
    | no k err => simp [RD.isOk, feR]
/-- A row of one's own that holds expressions. -/
def RowQ (B : Nat) (w : World) (v : Value) (rs : List Rx) : Prop := ∃ xs, w.ownsRow B 28 6 v rs.length xs ∧ RowVals (Kq B v) w xs rs
theorem RowQ.below {B : Nat} {w w' : World} {v : Value} {rs : List Rx} (h : RowQ B w v rs) (hb : Below w.heap.size w w') : RowQ B w' v rs := by
  obtain ⟨xs, h1, h2⟩ := h
  exact ⟨xs, ownR_below h1 hb, h2.go (keptB hb _)⟩
theorem RowQ.row {B : Nat} {w : World} {v : Value} {rs : List Rx} (h : RowQ B w v rs) : ∃ al cap, v = .slice al rs.length cap ∧ RowAt (fun _ => True) w al rs := by
  obtain ⟨xs, h1, h2⟩ := h
  obtain ⟨al, cap, e1, e2, e3⟩ := row_of_own h1 h2
  exact ⟨al, cap, e1, e3.imp fun _ _ _ => trivial⟩
theorem RowQ.push {B g cap : Nat} {w wA w4 : World} {v : Value} {rs : List Rx} {r : Rx} {c0 c1 c2 c3 c4 c5 : Value} {xs : List Value} (hv : RowVals (Kq B v) w xs rs) (he : ReAt (Kq B v) w (.agg #[c0, c1, c2, c3, c4, c5]) r) (hA : Below w.heap.size w wA) (hown : w4.ownsRow B 28 6 (.slice (some ⟨g, 0, none⟩) (rs.length + 1) cap) (rs.length + 1) (xs ++ [c0, c1, c2, c3, c4, c5])) (hgrow : wA.grownBy w4 v.ownBlock)
    (hat : v.ownBlock = some g ∨ g = wA.heap.size) : RowQ B w4 (.slice (some ⟨g, 0, none⟩) (rs.length + 1) cap) (rs ++ [r]) := by
  have hkept : Kept (Kq B v) (Kq B (.slice (some ⟨g, 0, none⟩) (rs.length + 1) cap)) w w4 := by
    refine ⟨Nat.le_trans hA.size hgrow.size, fun b h1 h2 => ⟨⟨h2.1, ?_⟩, ?_⟩⟩
    · intro e'
      simp [Value.ownBlock] at e'
      rcases hat with h | h
      · exact h2.2 (by rw [← e']; exact h)
      · have := hA.size; omega
    · exact (hgrow.block b (Nat.lt_of_lt_of_le h1 hA.size) (fun e' => h2.2 e'.symm)).trans (hA.block b h1)
  refine ⟨xs ++ [c0, c1, c2, c3, c4, c5], by simpa using hown, ?_⟩
  exact (hv.go hkept).append ((RowVals.one he).go hkept)
def ra2Inv (n : Nat) (w : World) (y : Value) (wr : World) : Prop := ∃ j : Nat, j ≤ n ∧ y = .int .i64 j ∧ Below w.heap.size w wr
def feV : Option (Nat × Nat) → Nat × Nat
  | none => (0, 0)
  | some p => p
noncomputable def wantL (L : List ByteArray) : List Rx := L.map fun s => (rdOf s).rx
def ra1Inv (L : List ByteArray) (w : World) (vw vb vn vi : Value) (wr : World) : Prop := ∃ (k : Nat) (rs : List Rx) (bad no : Nat), vi = .int .i64 k ∧ vb = .int .i64 bad ∧ vn = .int .i64 no ∧ k ≤ L.length ∧ rs = wantL (L.take k) ∧ (bad, no) = feV (feR ((L.take k).map rdOf)) ∧ ((feR ((L.take k).map rdOf)).isSome = true → no ≠ 0) ∧ (∀ j (h : j < L.length), j < k → L[j].size ≤ 200) ∧ RowQ w.heap.size wr vw rs ∧ Below w.heap.size w wr
theorem StrsAt.below {w w' : World} {al : Option Addr} {L : List ByteArray} (h : StrsAt w al L) (hb : Below w.heap.size w w') : StrsAt w' al L := by
  rcases h with h | ⟨b, off, h1, h2, h3⟩
  · exact .inl h
  · exact .inr ⟨b, off, h1, Nat.lt_of_lt_of_le h2 hb.size, fun i hi => by rw [hb.cell (p := ⟨b, off + i, none⟩) h2]; exact h3 i hi⟩
theorem fe_step {l : List RD} {r : RD} {k bad no : Nat} (hl : l.length = k) (h : (bad, no) = feV (feR l)) (hn : (feR l).isSome = true → no ≠ 0) (herr : ∀ kk err, r = .no kk err → err ≠ 0) :
    (no = 0 → r.err = 0 → (bad, 0) = feV (feR (l ++ [r])) ∧ ((feR (l ++ [r])).isSome = true → 0 ≠ 0)) ∧
    (no = 0 → r.err ≠ 0 → (k, r.err) = feV (feR (l ++ [r])) ∧ ((feR (l ++ [r])).isSome = true → r.err ≠ 0)) ∧
    (no ≠ 0 → (bad, no) = feV (feR (l ++ [r])) ∧ ((feR (l ++ [r])).isSome = true → no ≠ 0)) := by
  rw [feR_snoc]
  cases hf : feR l with
  | some x =>
    rw [hf] at h hn
    have h0 := hn rfl
    exact ⟨fun e => absurd e h0, fun e => absurd e h0, fun _ => ⟨h, fun _ => h0⟩⟩
  | none =>
    rw [hf] at h
    simp only [feV, Prod.mk.injEq] at h
    obtain ⟨rfl, rfl⟩ := h
    cases r with
    | ok e => exact ⟨fun _ _ => ⟨rfl, fun h => by cases h⟩, fun _ h => absurd rfl h, fun h => absurd rfl h⟩
    | no kk err =>
      have h0 := herr kk err rfl
      exact ⟨fun _ h => absurd h h0, fun _ _ => ⟨by rw [hl]; rfl, fun _ => h0⟩, fun h => absurd rfl h⟩
set_option maxRecDepth 100000 in
set_option maxHeartbeats 16000000 in
theorem readAll_walk (hRead : ReadC) (hForm : FormC) (L : List ByteArray) (al : Option Addr) (cap : Nat) (w : World) (hA : StrsAt w al L) (hlen : L.length ≤ maxLen) :
    Calls Try.prog 4 #[.slice al L.length cap] w fun e w' => e = .returned (.bool true) ∧ Below w.heap.size w w' := by
  have KA := Lib.hid (awake6_any hRead hForm)
  unfold Awake6C at KA
  unfold maxLen at hlen
  by_cases hbig : 20 < L.length
  · have d0 : decide ((20 : Int) < (L.length : Int)) = true := decide_eq_true (by omega)
    have d0' : decide (20 < L.length) = true := decide_eq_true (by omega)
    go_enter Try.func4, Try.ntmps4
    go_wp2_with fail
    refine (KA.out _).mono ?_
    rintro e w1 ⟨rfl, hb1⟩
    go_wp2
    go_ret
    exact ⟨rfl, hb1⟩
  · have d0 : decide ((20 : Int) < (L.length : Int)) = false := decide_eq_false (by omega)
    have d0' : decide (20 < L.length) = false := decide_eq_false (by omega)
    obtain ⟨i0, z0, hi0, hz0, hz1, hz2, hz3⟩ := infoR2
    have hz2' := Lib.hid hz2
    have HA := Lib.hid hA
    clear hz2 hA
    have h0 : RowQ w.heap.size (w.alloc (.cells #[] 28)) (.slice (some ⟨w.heap.size, 0, none⟩) 0 0) [] :=
      ⟨[], ⟨rfl, .inr ⟨w.heap.size, 0, #[], rfl, Nat.le_refl _, blk_new w _, Nat.le_refl _, Nat.zero_le _, rfl, rfl⟩⟩, RowVals.nil _ _⟩
    have HI := Lib.hid (show ra1Inv L w (.slice (some ⟨w.heap.size, 0, none⟩) 0 0) (.int .i64 0) (.int .i64 0) (.int .i64 0) (w.alloc (.cells #[] 28)) from ⟨0, [], 0, 0, rfl, rfl, rfl, Nat.zero_le _, rfl, by simp [feV, feR], fun h => by simp [feR] at h, fun j _ h => absurd h (Nat.not_lt_zero _), h0, (Below.refl _ w).alloc (Nat.le_refl _) _⟩)
    clear h0
    go_enter Try.func4, Try.ntmps4
    go_wp2_with fail
    go_loopw [3, 4, 5, 6] (fun vw vb vn vi wr => ra1Inv L w vw vb vn vi wr) (fun _ _ _ vi _ => L.length - (intOf vi).toNat)
    case atStart => exact HI.out
    case round =>
      obtain ⟨k, rs, bad, no, rfl, rfl, rfl, hk, hrs, hfe, hno, hsz, hrow, hb⟩ := hrel
      have HRS := Lib.hid hrs
      have HFE := Lib.hid hfe
      have HNO := Lib.hid hno
      have HSZ := Lib.hid hsz
      have HROW := Lib.hid hrow
      have HB := Lib.hid hb
      clear hrs hfe hno hsz hrow hb HI
      by_cases hlt : k < L.length
      · obtain ⟨b, off, hal, hblt, hc⟩ : ∃ b off, al = some ⟨b, off, none⟩ ∧ b < w.heap.size ∧ w.cell? ⟨b, off + k, none⟩ = some (.string L[k]) := by
          rcases HA.out with h | ⟨b, off, h1, h2, h3⟩
          · rw [h] at hlt; simp at hlt
          · exact ⟨b, off, h1, h2, h3 k hlt⟩
        subst hal
        have hcell : wr.cell? ⟨b, off + k, none⟩ = some (.string L[k]) := by rw [HB.out.cell (p := ⟨b, off + k, none⟩) hblt]; exact hc
        have q1 : (k : Int) < (L.length : Int) := by omega
        have d1 : decide ((k : Int) < (L.length : Int)) = true := decide_eq_true q1
        clear hc
        by_cases hbs : 200 < L[k].size
        · have d2 : decide ((200 : Int) < (L[k].size : Int)) = true := decide_eq_true (by omega)
          have d2' : decide (200 < L[k].size) = true := decide_eq_true (by omega)
          generalize L[k] = sk at *
          go_wp2_with fail
          refine (KA.out _).mono ?_
          rintro e w1 ⟨rfl, hb1⟩
          go_wp2
          go_ret
          exact ⟨rfl, HB.out.trans (hb1.mono HB.out.size)⟩
        · have d2 : decide ((200 : Int) < (L[k].size : Int)) = false := decide_eq_false (by omega)
          have d2' : decide (200 < L[k].size) = false := decide_eq_false (by omega)
          have K2 := Lib.hid (fun W => refRead6 L[k] W (by omega) _ (resOf_px L[k]))
          rw [show topR L[k].size (resOf L[k]) = rdOf L[k] from rfl] at K2
          have HT1 := Lib.hid (show wantL (L.take (k + 1)) = wantL (L.take k) ++ [(rdOf L[k]).rx] from by unfold wantL; rw [List.take_succ_eq_append_getElem hlt, List.map_append]; rfl)
          have HT2 := Lib.hid (show (L.take (k + 1)).map rdOf = (L.take k).map rdOf ++ [rdOf L[k]] from by rw [List.take_succ_eq_append_getElem hlt, List.map_append]; rfl)
          have HS2 := Lib.hid (show ∀ j (h : j < L.length), j < k + 1 → L[j].size ≤ 200 from fun j h hj => by
            by_cases e : j < k
            · exact HSZ.out j h e
            · obtain rfl : j = k := by omega
              omega)
          have hrl : rs.length = k := by rw [HRS.out]; unfold wantL; simp; omega
          have HRL := Lib.hid hrl
          have herr : ∀ kk err, rdOf L[k] = .no kk err → err ≠ 0 := fun kk err h => rd_no_err h
          have hlk : ((L.take k).map rdOf).length = k := by simp; omega
          have HSTEP := Lib.hid (fe_step hlk HFE.out HNO.out herr)
          rw [← HT2.out] at HSTEP
          clear hrl herr hlk hbs HT2
          generalize hR : rdOf L[k] = rd at *
          clear hR
          generalize L[k] = sk at *
          go_wp2_with fail
          refine (K2.out _).mono ?_
          rintro e w1 hp
          obtain ⟨y0, y1, y2, y3, y4, yl, yn, yc, rfl, hv, hb1⟩ := hp.all
          clear hp
          have hbw := HB.out.trans (hb1.mono HB.out.size)
          obtain ⟨xs, hown, hvals⟩ := HROW.out.below hb1
          have hvq : ReAt (Kq w.heap.size u3) w1 (.agg #[.int .u8 y0, .int .u64 y1, .int .u64 y2, .int .u64 y3, .int .u64 y4, .slice yl yn yc]) rd.rx := hv.imp fun b _ h => ⟨Nat.le_trans HB.out.size h, fun e => by
            obtain ⟨xs', h1, _⟩ := HROW.out
            have h2 := (h1.lt b e).2
            have h3 : wr.heap.size ≤ b := h
            omega⟩
          have HOW := Lib.hid hown
          have HVA := Lib.hid hvals
          have HVQ := Lib.hid hvq
          have HB1 := Lib.hid hbw
          have hws := hbw.size
          have wk : IntKind.i64.wrap ((k : Int) + 1) = (k : Int) + 1 := by rw [IntKind.wrap_i64]; omega
          clear hown hvals hvq hbw hb1 hv
          by_cases hno0 : no = 0
          · subst hno0
            by_cases hre : rd.err = 0
            · have e1 : ((rd.err : Int) != 0) = false := by rw [hre]; rfl
              have e2 : ((rd.err : Int) == 0) = true := by rw [hre]; rfl
              have e3 : (rd.err == 0) = true := by rw [hre]; rfl
              have HNX := Lib.hid (HSTEP.out.1 rfl hre)
              clear hre HSTEP
              go_wp2_with (at_builtin; refine wpList_append_lies _ rfl _ _ 26 rfl w.heap.size 28 i0 z0 6 64 Try.underlying26 hi0 hz0 hz1 hz2'.out hz3 (by decide) _ _ _ rfl ((HOW.out.alloc _).alloc _) ⟨w1.heap.size + 1, 0, none⟩ 1 1 [.int .u8 y0, .int .u64 y1, .int .u64 y2, .int .u64 y3, .int .u64 y4, .slice yl yn yc] rfl rfl ?c1 ?c2 (by decide) ?c3 ?c4 ?c5 _ rfl ?_)
              case c1 => exact six_at _ (by simp) _ _ _ _ _ _
              case c2 => intro u hu; simp at hu; rcases hu with rfl | rfl | rfl | rfl | rfl | rfl <;> rfl
              case c3 => have := HRL.out; unfold maxLen; omega
              case c4 => have := HRL.out; omega
              case c5 => simp; omega
              intro g' cap' w4 hown' hgrow hat hlt'
              have hAA : Below w1.heap.size w1 ((w1.alloc (.cells #[.int .u8 y0, .int .u64 y1, .int .u64 y2, .int .u64 y3, .int .u64 y4, .slice yl yn yc] 28)).alloc (.cells #[.int .u8 y0, .int .u64 y1, .int .u64 y2, .int .u64 y3, .int .u64 y4, .slice yl yn yc] 28)) := ((Below.refl _ w1).alloc (Nat.le_refl _) _).alloc (by simp) _
              have hP := RowQ.push HVA.out HVQ.out hAA hown' hgrow (by simpa using hat)
              have hb4 : Below w.heap.size w w4 := Below.grown (HB1.out.trans (hAA.mono hws)) hgrow (Nat.le_trans hws hAA.size) (fun g hg => (HOW.out.lt g hg).1)
              have HI2 := Lib.hid (show ra1Inv L w (.slice (some ⟨g', 0, none⟩) (rs.length + 1) cap') (.int .i64 (bad : Nat)) (.int .i64 (0 : Nat)) (.int .i64 ((k + 1 : Nat) : Int)) w4 from ⟨k + 1, rs ++ [rd.rx], bad, 0, rfl, rfl, rfl, by omega, by rw [HT1.out, HRS.out], HNX.out.1, HNX.out.2, HS2.out, hP, hb4⟩)
              clear hP hb4 hAA hown' hgrow hat HOW HVA HVQ
              go_wp2
              exact ⟨HI2.out, by simp [intOf]; omega⟩
            · have e1 : ((rd.err : Int) != 0) = true := by simp; omega
              have e2 : ((rd.err : Int) == 0) = false := by simp; omega
              have e3 : (rd.err == 0) = false := by simp; omega
              have HNX := Lib.hid (HSTEP.out.2.1 rfl hre)
              clear hre HSTEP
              go_wp2_with (at_builtin; refine wpList_append_lies _ rfl _ _ 26 rfl w.heap.size 28 i0 z0 6 64 Try.underlying26 hi0 hz0 hz1 hz2'.out hz3 (by decide) _ _ _ rfl ((HOW.out.alloc _).alloc _) ⟨w1.heap.size + 1, 0, none⟩ 1 1 [.int .u8 y0, .int .u64 y1, .int .u64 y2, .int .u64 y3, .int .u64 y4, .slice yl yn yc] rfl rfl ?c1 ?c2 (by decide) ?c3 ?c4 ?c5 _ rfl ?_)
              case c1 => exact six_at _ (by simp) _ _ _ _ _ _
              case c2 => intro u hu; simp at hu; rcases hu with rfl | rfl | rfl | rfl | rfl | rfl <;> rfl
              case c3 => have := HRL.out; unfold maxLen; omega
              case c4 => have := HRL.out; omega
              case c5 => simp; omega
              intro g' cap' w4 hown' hgrow hat hlt'
              have hAA : Below w1.heap.size w1 ((w1.alloc (.cells #[.int .u8 y0, .int .u64 y1, .int .u64 y2, .int .u64 y3, .int .u64 y4, .slice yl yn yc] 28)).alloc (.cells #[.int .u8 y0, .int .u64 y1, .int .u64 y2, .int .u64 y3, .int .u64 y4, .slice yl yn yc] 28)) := ((Below.refl _ w1).alloc (Nat.le_refl _) _).alloc (by simp) _
              have hP := RowQ.push HVA.out HVQ.out hAA hown' hgrow (by simpa using hat)
              have hb4 : Below w.heap.size w w4 := Below.grown (HB1.out.trans (hAA.mono hws)) hgrow (Nat.le_trans hws hAA.size) (fun g hg => (HOW.out.lt g hg).1)
              have HI2 := Lib.hid (show ra1Inv L w (.slice (some ⟨g', 0, none⟩) (rs.length + 1) cap') (.int .i64 (k : Nat)) (.int .i64 (rd.err : Nat)) (.int .i64 ((k + 1 : Nat) : Int)) w4 from ⟨k + 1, rs ++ [rd.rx], k, rd.err, rfl, rfl, rfl, by omega, by rw [HT1.out, HRS.out], HNX.out.1, HNX.out.2, HS2.out, hP, hb4⟩)
              clear hP hb4 hAA hown' hgrow hat HOW HVA HVQ
              go_wp2
              exact ⟨HI2.out, by simp [intOf]; omega⟩
          · have e1 : ((no : Int) == 0) = false := by simp; omega
            have e3 : (no == 0) = false := by simp; omega
            have HNX := Lib.hid (HSTEP.out.2.2 hno0)
            clear HSTEP
            go_wp2_with (at_builtin; refine wpList_append_lies _ rfl _ _ 26 rfl w.heap.size 28 i0 z0 6 64 Try.underlying26 hi0 hz0 hz1 hz2'.out hz3 (by decide) _ _ _ rfl ((HOW.out.alloc _).alloc _) ⟨w1.heap.size + 1, 0, none⟩ 1 1 [.int .u8 y0, .int .u64 y1, .int .u64 y2, .int .u64 y3, .int .u64 y4, .slice yl yn yc] rfl rfl ?c1 ?c2 (by decide) ?c3 ?c4 ?c5 _ rfl ?_)
            case c1 => exact six_at _ (by simp) _ _ _ _ _ _
            case c2 => intro u hu; simp at hu; rcases hu with rfl | rfl | rfl | rfl | rfl | rfl <;> rfl
            case c3 => have := HRL.out; unfold maxLen; omega
            case c4 => have := HRL.out; omega
            case c5 => simp; omega
            intro g' cap' w4 hown' hgrow hat hlt'
            have hAA : Below w1.heap.size w1 ((w1.alloc (.cells #[.int .u8 y0, .int .u64 y1, .int .u64 y2, .int .u64 y3, .int .u64 y4, .slice yl yn yc] 28)).alloc (.cells #[.int .u8 y0, .int .u64 y1, .int .u64 y2, .int .u64 y3, .int .u64 y4, .slice yl yn yc] 28)) := ((Below.refl _ w1).alloc (Nat.le_refl _) _).alloc (by simp) _
            have hP := RowQ.push HVA.out HVQ.out hAA hown' hgrow (by simpa using hat)
            have hb4 : Below w.heap.size w w4 := Below.grown (HB1.out.trans (hAA.mono hws)) hgrow (Nat.le_trans hws hAA.size) (fun g hg => (HOW.out.lt g hg).1)
            have HI2 := Lib.hid (show ra1Inv L w (.slice (some ⟨g', 0, none⟩) (rs.length + 1) cap') (.int .i64 (bad : Nat)) (.int .i64 (no : Nat)) (.int .i64 ((k + 1 : Nat) : Int)) w4 from ⟨k + 1, rs ++ [rd.rx], bad, no, rfl, rfl, rfl, by omega, by rw [HT1.out, HRS.out], HNX.out.1, HNX.out.2, HS2.out, hP, hb4⟩)
            clear hP hb4 hAA hown' hgrow hat HOW HVA HVQ
            go_wp2
            exact ⟨HI2.out, by simp [intOf]; omega⟩
      · have hke : k = L.length := by omega
        subst hke
        have d1 : decide ((L.length : Int) < (L.length : Int)) = false := decide_eq_false (by omega)
        have htk : L.take L.length = L := List.take_of_length_le (Nat.le_refl _)
        rw [htk] at HFE HNO HRS
        have KAll := Lib.hid fun W (hb : Below w.heap.size w W) => rall_any L al cap W (by omega) (fun s hs => by
          obtain ⟨j, hj, rfl⟩ := List.getElem_of_mem hs
          have := HSZ.out j hj hj
          omega) (HA.out.below hb)
        have KForm := Lib.hid fun W (hb : Below w.heap.size w W) => hForm L al cap W (by omega) (fun s hs => by
          obtain ⟨j, hj, rfl⟩ := List.getElem_of_mem hs
          have := HSZ.out j hj hj
          omega) (HA.out.below hb)
        rw [fe_all] at KForm
        have hrl : rs.length = L.length := by rw [HRS.out]; unfold wantL; simp
        have HRL := Lib.hid hrl
        obtain ⟨wl, wc, rfl, hwr⟩ := HROW.out.row
        have HWR := Lib.hid hwr
        clear htk hrl hwr HROW
        go_wp2_with fail
        refine (KAll.out _ HB.out).mono ?_
        rintro e w1 ⟨hb1, hcase⟩
        have HB1 := Lib.hid (HB.out.trans (hb1.mono HB.out.size))
        have HWR1 := Lib.hid (HWR.out.below hb1)
        rcases hcase with ⟨ps, gl, gc, heq, rfl, hgc, hgr⟩ | ⟨i, kk, err, ps, hi, htk, hr, herr, rfl⟩
        · have hfe := fe_one heq
          rw [hfe] at KForm
          have hbn := HFE.out
          rw [hfe] at hbn
          simp only [feV, Prod.mk.injEq] at hbn
          obtain ⟨rfl, rfl⟩ := hbn
          have hpl : ps.length = L.length := by
            have := congrArg List.length heq
            simp at this; omega
          have hsame : ps.map Ex.rx = rs := by
            rw [HRS.out]; unfold wantL
            have h1 : L.map (fun s => (rdOf s).rx) = (L.map rdOf).map RD.rx := by simp
            rw [h1, heq]
            simp [RD.rx]
          have HSM := Lib.hid hsame
          have HGR := Lib.hid hgr
          have HPL := Lib.hid hpl
          simp only [Option.isNone_none] at KForm
          clear hfe heq hsame hgr hpl HFE HNO HRS hb1
          rw [HPL.out]
          rw [show ((0 : Nat) : Int) = 0 from rfl]
          have hrl := HRL.out
          rw [hrl]
          clear hrl
          go_wp2_with fail
          refine (KForm.out _ HB1.out).mono ?_
          rintro e w2 ⟨rfl, hb2⟩
          have HB2 := Lib.hid (HB1.out.trans (hb2.mono HB1.out.size))
          have HGR2 := Lib.hid (HGR.out.below hb2)
          have HWR2 := Lib.hid (HWR1.out.below hb2)
          clear hb2
          go_wp2_with fail
          go_loopw [13] (fun y wr => ra2Inv L.length w2 y wr) (fun y _ => L.length - (intOf y).toNat)
          case atStart => exact ⟨0, Nat.zero_le _, rfl, Below.refl _ _⟩
          case round =>
            obtain ⟨j, hj, rfl, hbj⟩ := hrel
            by_cases hjl : j < L.length
            · have r1 : (j : Int) < (L.length : Int) := by omega
              have r2 : decide ((j : Int) < (L.length : Int)) = true := decide_eq_true r1
              have wj : IntKind.i64.wrap ((j : Int) + 1) = (j : Int) + 1 := by rw [IntKind.wrap_i64]; omega
              obtain ⟨rows, hrows⟩ : ∃ l, l = ps.map Ex.rx := ⟨_, rfl⟩
              have hgr := HGR2.out
              have hsm := HSM.out
              rw [← hrows] at hgr hsm
              have hwr := HWR2.out
              rw [← hsm] at hwr
              have hjr : j < rows.length := by rw [hrows, List.length_map]; have := HPL.out; omega
              obtain ⟨b1, o1, rfl, hb1l, hn1⟩ := hgr.kid hjr
              obtain ⟨b2, o2, rfl, hb2l, hn2⟩ := hwr.kid hjr
              have hk1 := NodeAt.below hbj _ hb1l hn1
              have hk2 := NodeAt.below hbj _ hb2l hn2
              clear hgr hwr hsm hrows hn1 hn2
              generalize rows[j] = kid at *
              obtain ⟨k3, ⟨ta, tb, tc, td⟩, ks3⟩ := kid
              obtain ⟨al1, cp1, ⟨c0, c1, c2, c3, c4, c5⟩, hre1⟩ := hk1.read
              obtain ⟨al2, cp2, ⟨g0, g1, g2, g3, g4, g5⟩, hre2⟩ := hk2.read
              simp only at c0 c1 c2 c3 c4 c5 g0 g1 g2 g3 g4 g5
              have KS := Lib.hid (refSame_any (Rx.node k3 ⟨ta, tb, tc, td⟩ ks3).size _ _ (Nat.le_refl _) _ _ wr.drew (hre1.below (Below.refl _ _).drew) (hre2.below (Below.refl _ _).drew))
              rw [show sameR (Rx.node k3 ⟨ta, tb, tc, td⟩ ks3) (Rx.node k3 ⟨ta, tb, tc, td⟩ ks3) = true from (sameR_iff _ _).2 rfl] at KS
              have hbl1 := Nat.lt_of_lt_of_le hb1l hbj.size
              have hbl2 := Nat.lt_of_lt_of_le hb2l hbj.size
              have HBJ := Lib.hid hbj
              clear hk1 hk2 hre1 hre2 hbj
              go_wp2_with fail
              go_still_tail 8, (by kernel_rfl)
              change wpList _ _ _ _ _ wr.drew
              go_wp2_with fail
              refine KS.out.mono ?_
              rintro e w5 ⟨rfl, hb5⟩
              have HB5 := Lib.hid (HBJ.out.drew.trans (hb5.mono HBJ.out.drew.size))
              clear hb5
              go_wp2
              exact ⟨⟨j + 1, by omega, by go_num, HB5.out⟩, by simp [intOf]; omega⟩
            · have hje : j = L.length := by omega
              subst hje
              have r2 : decide ((L.length : Int) < (L.length : Int)) = false := decide_eq_false (by omega)
              have HBJ := Lib.hid (HB2.out.trans (hbj.mono HB2.out.size))
              clear hbj
              go_wp2_with fail
              refine (KA.out _).mono ?_
              rintro e w6 ⟨rfl, hb6⟩
              go_wp2
              go_ret
              exact ⟨rfl, HBJ.out.trans (hb6.mono HBJ.out.size)⟩
        · have hfe := fe_two hi htk hr
          rw [hfe] at KForm
          have hbn := HFE.out
          rw [hfe] at hbn
          simp only [feV, Prod.mk.injEq] at hbn
          obtain ⟨rfl, rfl⟩ := hbn
          simp only [Option.isNone_some] at KForm
          have e1 : ((no : Int) == 0) = false := by simp; omega
          have e2 : ((no : Int) != 0) = true := by simp; omega
          have e3 : (no == 0) = false := by simp; omega
          clear hfe hr htk HFE HNO HRS hb1
          go_wp2_with fail
          refine (KForm.out _ HB1.out).mono ?_
          rintro e w2 ⟨rfl, hb2⟩
          have HB2 := Lib.hid (HB1.out.trans (hb2.mono HB1.out.size))
          clear hb2
          go_wp2_with fail
          refine (KA.out _).mono ?_
          rintro e w3 ⟨rfl, hb3⟩
          go_wp2
          go_ret
          exact ⟨rfl, HB2.out.trans (hb3.mono HB2.out.size)⟩
end Go.Proofs.Ytmkjcbgcikgglaa
