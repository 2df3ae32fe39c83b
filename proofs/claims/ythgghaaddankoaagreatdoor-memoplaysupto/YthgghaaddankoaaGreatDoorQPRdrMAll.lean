/- Lemmas of mine, merged: QPRdrM, QPRdrN, QPRdrO, QPRdrR, QPRdrS. -/
import Derived.Test.YthgghaaddankoaaGreatDoorQPRdrDAll
import Derived.Test.YthgghaaddankoaaGreatDoorQPRdrFAll
import Derived.Test.YthgghaaddankoaaGreatDoorQPRexEAll
import Derived.Test.YthgghaaddankoaaGreatDoorQPRexJAll
import Derived.OwnWalk
import Derived.Deep.AppendLies
import Derived.Test.YthgghaaddankoaaGreatDoorQPReadJAll
/- Lemmas of mine. -/
namespace Go.Proofs.YthgghaaddankoaaGreatDoor
open Go.RowKit
def StE (B D : Nat) (w : World) (s : ByteArray) (k : Nat) (low : List Lv) (top : Lv) : Prop := ∃ col G cap vlow vr vp, StC B D col w s k G cap vlow vr vp low top
def Bnd (n : Nat) (low : List Lv) (top : Lv) : Prop := low.length ≤ n ∧ (∀ lv ∈ low, lv.rows.length ≤ n ∧ lv.parts.length ≤ n) ∧ top.rows.length ≤ n ∧ top.parts.length ≤ n
theorem Bnd.mono {n m : Nat} {low : List Lv} {top : Lv} (h : Bnd n low top) (hm : n ≤ m) : Bnd m low top := ⟨Nat.le_trans h.1 hm, fun lv hl => ⟨Nat.le_trans (h.2.1 lv hl).1 hm, Nat.le_trans (h.2.1 lv hl).2 hm⟩, Nat.le_trans h.2.2.1 hm, Nat.le_trans h.2.2.2 hm⟩
theorem Bnd.add {n m : Nat} {low : List Lv} {top : Lv} {a : Ex} (h : Bnd n low top) (hm : n + 1 ≤ m) : Bnd m low ⟨top.rows, top.parts ++ [a]⟩ := by
  have := h.mono (show n ≤ m by omega); exact ⟨this.1, this.2.1, this.2.2.1, by have := h.2.2.2; simp; omega⟩
theorem Bnd.pop {n : Nat} {low : List Lv} {lv top : Lv} (h : Bnd n (low ++ [lv]) top) : Bnd n low lv := by
  have hl := h.2.1 lv (by simp); exact ⟨by have := h.1; simp at this; omega, fun x hx => h.2.1 x (by simp [hx]), hl.1, hl.2⟩
theorem Bnd.push {n m : Nat} {low : List Lv} {top : Lv} (h : Bnd n low top) (hm : n + 1 ≤ m) : Bnd m (low ++ [top]) ⟨[], []⟩ := by
  refine ⟨by have := h.1; simp; omega, fun x hx => ?_, by simp, by simp⟩; simp at hx
  rcases hx with hx | rfl
  · have := h.2.1 x hx; omega
  · have := h.2.2; omega
def NxtPost (B D : Nat) (s : ByteArray) (l0 : List UInt8) (k : Nat) (w : World) (e : Ending) (w' : World) : Prop := Below B w w' ∧
  ((e = .returned (.tuple #[]) ∧ ∃ k' low top, k < k' ∧ k' ≤ s.size ∧ StE B D w' s k' low top ∧ StkSt l0 low top (tl s k') ∧ Bnd k' low top) ∨ (∃ k', k' ≤ s.size ∧ e = thr k' ∧ Ref l0 (tl s k')))
theorem ofR_ex (q : Ws) : (ofS q).rx = ofR q := by
  unfold ofS ofR
  split <;> rfl
theorem rng_full : rangeW 0 255 = Ws.full := by
  refine Ws.has_ext (ofN_ok _) Ws.full_ok fun m hm => ?_; rw [Ws.has_full]; show (rngW 0 255).has m = true; unfold rngW; rw [has_ofN _ (by intro x hx; simp at hx; omega) m hm]
  simp; omega
theorem add_new {B D : Nat} {col : Nat → Nat} {w W : World} {s : ByteArray} {k G cap n : Nat} {vlow : List (Value × Value)} {vr vp : Value} {low : List Lv} {top : Lv} (hS : StC B D col w s k G cap vlow vr vp low top) (hn : low.length < 1000000) (hp : top.parts.length < 1000000) {a : Ex} {v : Value} (hb : Below w.heap.size w W) (hre : ReAt (New n) W v a.rx) (hge : w.heap.size ≤ n) :
    Calls Tryz.prog 76 #[.pointer (some ⟨D, 0, none⟩), v] W (StepPost B D col W s k low ⟨top.rows, top.parts ++ [a]⟩) :=
  add_any (hS.below hb) hn hp a v (re_new hre (Nat.le_trans hS.sizes.1 hge) (fun b h => hS.new b (Nat.le_trans hge h)))
theorem nxt_ok {B D : Nat} {s : ByteArray} {l0 : List UInt8} {k k' : Nat} {col : Nat → Nat} {w W w' : World} {low : List Lv} {top : Lv} {e : Ending} (hB : Below B w W) (h : StepPost B D col W s k' low top e w') (hk : k < k') (hs : k' ≤ s.size) (hst : StkSt l0 low top (tl s k')) (hbn : Bnd k' low top) : e = .returned (.tuple #[]) ∧ NxtPost B D s l0 k w (.returned (.tuple #[])) w' := by
  obtain ⟨rfl, hb, col', G, cap, vlow, vr, vp, _, hS⟩ := h; exact ⟨rfl, hB.trans hb, .inl ⟨rfl, k', low, top, hk, hs, ⟨col', G, cap, vlow, vr, vp, hS⟩, hst, hbn⟩⟩
theorem StC.pushed {B D : Nat} {col : Nat → Nat} {w w2 : World} {s : ByteArray} {k G cap : Nat} {vlow : List (Value × Value)} {vr vp : Value} {low : List Lv} {top : Lv} (hS : StC B D col w s k G cap vlow vr vp low top) {wA : World} {g' cap' : Nat} (hA : Below w.heap.size w wA) (hgrow : wA.grownBy w2 (some G)) (hat : G = g' ∨ g' = wA.heap.size) (how : w2.ownsRow B 108 2 (.slice (some ⟨g', 0, none⟩) (low.length + 1 + 1) cap') (low.length + 1 + 1) (flat vlow ++ [vr, vp] ++ [.slice none 0 0, .slice none 0 0])) :
    StC B D (upd col g' 2) (w2.setCell ⟨D, 2, none⟩ (.slice (some ⟨g', 0, none⟩) (low.length + 1 + 1) cap')) s k g' cap' (vlow ++ [(vr, vp)]) (.slice none 0 0) (.slice none 0 0) (low ++ [top]) ⟨[], []⟩ := by
  obtain ⟨z1, z2, z3, z4, z5, z6⟩ := hS.sizes
  have hat' : (Value.slice (some ⟨G, 0, none⟩) 0 0).ownBlock = some g' ∨ g' = wA.heap.size := by
    rcases hat with h | h
    · left; rw [← h]; rfl
    · exact .inr h
  have hf := grown_frame (v := .slice (some ⟨G, 0, none⟩) 0 0) (G := D) (g := g') (c := 2) (cc := 1) (w3 := w2.setCell ⟨D, 2, none⟩ (.slice (some ⟨g', 0, none⟩) (low.length + 1 + 1) cap')) hA hgrow hat' (fun g hg => by simp [Value.ownBlock] at hg; rw [← hg]; exact hS.cG) (by simp [World.setCell]) (fun b _ h2 => Below.heap_setCell _ _ _ _ h2) hS.cD
  have hDg : D ≠ g' := by
    intro e
    rcases hat with h | h
    · exact z5 (by rw [e, h])
    · have := hA.size; omega
  (have hl : (low ++ [top]).length = low.length + 1 := by simp); have hr : RdB w2 D s k (.slice (some ⟨G, 0, none⟩) (low.length + 1) cap) := hS.rd.of ((hgrow.block D (Nat.lt_of_lt_of_le z2 hA.size) (by intro e; simp at e; exact z5 e)).trans (hA.block D z2)); refine ⟨by rw [hl]; exact hr.lay _, hS.ge, by rw [(hf.2 D z2).1]; exact hS.cD, ?_, upd_at _ _ _, ?_, ⟨RwC.nil _ _ _ _, RwC.nil _ _ _ _⟩, fun b hb => ?_⟩
  · rw [hl, flat_snoc]; exact own_levels how (Below.heap_setCell _ _ _ _ (fun e => hDg e.symm))
  · exact (hS.lo.frame hf (by omega)).snoc (hS.tp.frame hf (by omega) (by omega) (by omega))
  · have h1 := (own_lt how).2.1; (have h2 : w2.heap.size ≤ b := by simpa [World.setCell] using hb); rw [upd_far _ (by omega)]; exact hS.new b (Nat.le_trans hA.size (Nat.le_trans hgrow.size h2))
theorem infoL : (Tryz.prog.info? 108).map (fun i => (i.zero, i.size, i.bytes)) = some (some (.agg #[.slice none 0 0, .slice none 0 0]), 2, 48) := by kernel_rfl
theorem two_at {g : Nat} (w : World) (hg : g = w.heap.size) (c0 c1 : Value) : ∀ j u, [c0, c1][j]? = some u → (w.alloc (.cells #[c0, c1] 108)).cell? ((⟨g, 0, none⟩ : Addr).add j) = some u := by
  intro j u h; subst hg; rw [Go.WideShapes.add_plain, Lib.cell_of_heap (blk_new w _)]
  simpa using h
structure Frt (f : ByteArray) (c : UInt8) : Prop where
  d40 : (f.toList == [40]) = decide (c = 40)
  d41 : (f.toList == [41]) = decide (c = 41)
  d124 : (f.toList == [124]) = decide (c = 124)
  d42 : (f.toList == [42]) = decide (c = 42)
  d46 : (f.toList == [46]) = decide (c = 46)
  d91 : (f.toList == [91]) = decide (c = 91)
theorem frt_of (c : UInt8) (t : List UInt8) : Frt (frS (c :: t)) c := by
  have h := (frS_one c t).list
  have e : ∀ x : UInt8, ([c] == [x]) = decide (c = x) := fun x => by
    by_cases hx : c = x
    · subst hx; simp
    · simp [hx]
  exact ⟨by rw [h, e], by rw [h, e], by rw [h, e], by rw [h, e], by rw [h, e], by rw [h, e]⟩
set_option maxHeartbeats 4000000 in
theorem next_open {B D : Nat} {col : Nat → Nat} {w : World} {s : ByteArray} {k G cap : Nat} {vlow : List (Value × Value)} {vr vp : Value} {low : List Lv} {top : Lv} (hS : StC B D col w s k G cap vlow vr vp low top) {l0 : List UInt8} (hs : s.size ≤ 65536) (hk : k < s.size) (hst : StkSt l0 low top (tl s k)) (hbn : Bnd k low top) (hc : s[k] = 40) :
    Calls Tryz.prog 51 #[.pointer (some ⟨D, 0, none⟩)] w (NxtPost B D s l0 k w) := by
  have hn := hbn.1; have KF := Lib.hid (front_any hS.rd (by omega) (by omega)); have hz := tl_cons s k hk; rw [hz, hc] at KF hst; have hst2 := hst.open; obtain ⟨d1, d2, d3, d4, d5, d6⟩ := frt_of 40 (tl s (k + 1)); generalize frS (40 :: tl s (k + 1)) = f at *; simp only [decide_true] at d1; obtain ⟨i0, hi0, hz0, hz1, hz2⟩ := info_parts infoL; have hz2' := Lib.hid hz2; have HS := Lib.hid hS; have HST := Lib.hid hst2; have HBN := Lib.hid (hbn.push (m := k + 1) (Nat.le_refl _)); have hBw := hS.sizes.1; (have wk : IntKind.i64.wrap ((k : Int) + 1) = (k : Int) + 1 := by rw [IntKind.wrap_i64]; omega); clear hz2 hS hst hst2 hbn hz hc d2 d3 d4 d5 d6; go_enter Tryz.func51, Tryz.ntmps51; go_wp2_with fail; refine KF.out.mono ?_; rintro e w1 ⟨rfl, hb1⟩; have hS1 := HS.out.below hb1; have hS2 := hS1.but ((But.refl D _ _).set 1 (.int .i64 ((k : Int) + 1))) (hS1.rd.go (k + 1)); obtain ⟨c0, c1, c2⟩ := hS1.rd.cells; obtain ⟨f0, f1, f2⟩ := hS1.rd.frozen; have HS2 := Lib.hid hS2; have HB2 := Lib.hid ((hb1.mono hBw).setCell (p := ⟨D, 1, none⟩) HS.out.ge (.int .i64 ((k : Int) + 1))); have hDl := hS1.rd.lt; clear hS1 hS2 hb1; go_wp2_with (at_builtin; refine wpList_append_lies _ rfl _ _ 109 rfl B 108 i0 _ 2 48 Tryz.underlying109 hi0 hz0 hz1 hz2'.out rfl (by decide) _ _ _ rfl (HS2.out.own.alloc _) ⟨w1.heap.size, 0, none⟩ 1 1 [.slice none 0 0, .slice none 0 0] rfl rfl ?c1 ?c2 (by decide) ?c3 ?c4 ?c5 _ rfl ?_)
  case c1 => exact two_at _ (by simp [World.setCell]) _ _
  case c2 => intro u hu; simp at hu; subst hu; rfl
  case c3 => unfold maxLen; omega
  case c4 => omega
  case c5 => exact Nat.le_trans HS2.out.sizes.1 (by simp)
  intro g' cap' w2 hown hgrow hat hlt; have hA := (Below.refl _ (w1.setCell ⟨D, 1, none⟩ (.int .i64 ((k : Int) + 1)))).alloc (Nat.le_refl _) (.cells #[.slice none 0 0, .slice none 0 0] 108)
  have hS3 := HS2.out.pushed hA hgrow (by
    rcases hat with h | h
    · left; simp [Value.ownBlock] at h; exact h
    · exact .inr (by rw [h]; simp [World.setCell])) (by simpa using hown)
  have hr3 : RdB w2 D s (k + 1) (.slice (some ⟨G, 0, none⟩) (low.length + 1) cap) := HS2.out.rd.of ((hgrow.block D (by simp [World.setCell]; omega) (by intro e; simp [Value.ownBlock] at e; exact HS.out.sizes.2.2.2.2.1 e)).trans (hA.block D (by simp [World.setCell]; exact hDl))); obtain ⟨g0, g1, g2⟩ := hr3.cells; obtain ⟨h0, h1, h2⟩ := hr3.frozen; have HS3 := Lib.hid hS3; have HB3 := Lib.hid ((Below.grown (HB2.out.alloc (Nat.le_trans HS2.out.sizes.1 (Nat.le_refl _)) _) hgrow (Nat.le_trans HS2.out.sizes.1 hA.size) (by intro x hx; simp [Value.ownBlock] at hx; subst hx; exact HS.out.sizes.2.2.2.1)).setCell (p := ⟨D, 2, none⟩) HS.out.ge (.slice (some ⟨g', 0, none⟩) (low.length + 1 + 1) cap')); clear hS3 hr3 hown hgrow hat hA; go_wp2; go_end0; exact ⟨HB3.out, .inl ⟨rfl, k + 1, _, _, by omega, by omega, ⟨_, _, _, _, _, _, HS3.out⟩, HST.out, HBN.out⟩⟩
set_option maxHeartbeats 4000000 in
theorem next_star {B D : Nat} {col : Nat → Nat} {w : World} {s : ByteArray} {k G cap : Nat} {vlow : List (Value × Value)} {vr vp : Value} {low : List Lv} {top : Lv} (hS : StC B D col w s k G cap vlow vr vp low top) {l0 : List UInt8} (hs : s.size ≤ 65536) (hk : k < s.size) (hst : StkSt l0 low top (tl s k)) (hbn : Bnd k low top) (hc : s[k] = 42) :
    Calls Tryz.prog 51 #[.pointer (some ⟨D, 0, none⟩)] w (NxtPost B D s l0 k w) := by
  have hn := hbn.1; have hnr := hbn.2.2.1; have hnp := hbn.2.2.2; have KF := Lib.hid (front_any hS.rd (by omega) (by omega)); have hz := tl_cons s k hk; rw [hz, hc] at KF hst; obtain ⟨d1, d2, d3, d4, d5, d6⟩ := frt_of 42 (tl s (k + 1)); generalize frS (42 :: tl s (k + 1)) = f at *; rw [show decide ((42 : UInt8) = 40) = false from by decide] at d1; rw [show decide ((42 : UInt8) = 41) = false from by decide] at d2; rw [show decide ((42 : UInt8) = 124) = false from by decide] at d3; rw [show decide ((42 : UInt8) = 42) = true from by decide] at d4; rw [show decide ((42 : UInt8) = 46) = false from by decide] at d5; rw [show decide ((42 : UInt8) = 91) = false from by decide] at d6; have HS := Lib.hid hS; have hBw := hS.sizes.1; (have wk : IntKind.i64.wrap ((k : Int) + 1) = (k : Int) + 1 := by rw [IntKind.wrap_i64]; omega); have hsz := congrArg List.length hz; (have hself : tl s k = 42 :: tl s (k + 1) := by rw [hz, hc]); obtain ⟨rows, parts⟩ := top
  by_cases hp : parts = []
  · subst hp
    have HRF := Lib.hid (show Ref l0 (tl s k) from by
      rw [hself]
      exact hst.bare rfl (notAt_cons (by decide)) (notAt_cons (by decide)) (notAt_cons (by decide)) (sgn_bad_cons 42 _ (by decide) (by decide)) (.inl (notAt_cons (by decide))))
    clear hst hsz hself hz hc; clear hS; go_enter Tryz.func51, Tryz.ntmps51; go_wp2_with fail; refine KF.out.mono ?_; rintro e w1 ⟨rfl, hb1⟩; have hS1 := HS.out.below hb1; have HB1 := Lib.hid (hb1.mono hBw); have KS := Lib.hid (star_no hS1 (by omega)); clear hS1; go_wp2_with fail; refine KS.out.mono ?_; rintro e w2 ⟨rfl, hb2⟩; exact ⟨rfl, HB1.out.trans hb2, .inr ⟨k, by omega, rfl, HRF.out⟩⟩
  · obtain ⟨ps, p, rfl⟩ : ∃ ps p, parts = ps ++ [p] := ⟨parts.dropLast, parts.getLast hp, (List.dropLast_concat_getLast hp).symm⟩; have HST := Lib.hid hst.star
    have HBN := Lib.hid (show Bnd (k + 1) low ⟨rows, ps ++ [.star p]⟩ from by
      have h := hbn.mono (Nat.le_succ k)
      exact ⟨h.1, h.2.1, h.2.2.1, by have := h.2.2.2; simpa using this⟩)
    simp only [List.length_append, List.length_cons, List.length_nil] at hnp; clear hst hsz hself hz hc hp hbn; clear hS; go_enter Tryz.func51, Tryz.ntmps51; go_wp2_with fail; refine KF.out.mono ?_; rintro e w1 ⟨rfl, hb1⟩; have hS1 := HS.out.below hb1; have HB1 := Lib.hid (hb1.mono hBw); have KS := Lib.hid (star_yes hS1 (by omega) (by omega) (by omega)); clear hS1; go_wp2_with fail; refine KS.out.mono ?_; rintro e w2 hpost; obtain ⟨rfl, hnx⟩ := nxt_ok HB1.out hpost (Nat.lt_succ_self k) (by omega) HST.out HBN.out; go_wp2; go_end0; exact hnx
set_option maxHeartbeats 4000000 in
theorem next_bar {B D : Nat} {col : Nat → Nat} {w : World} {s : ByteArray} {k G cap : Nat} {vlow : List (Value × Value)} {vr vp : Value} {low : List Lv} {top : Lv} (hS : StC B D col w s k G cap vlow vr vp low top) {l0 : List UInt8} (hs : s.size ≤ 65536) (hk : k < s.size) (hst : StkSt l0 low top (tl s k)) (hbn : Bnd k low top) (hc : s[k] = 124) :
    Calls Tryz.prog 51 #[.pointer (some ⟨D, 0, none⟩)] w (NxtPost B D s l0 k w) := by
  have hn := hbn.1; have hnr := hbn.2.2.1; have hnp := hbn.2.2.2; have KF := Lib.hid (front_any hS.rd (by omega) (by omega)); have hz := tl_cons s k hk; rw [hz, hc] at KF hst; obtain ⟨d1, d2, d3, d4, d5, d6⟩ := frt_of 124 (tl s (k + 1)); generalize frS (124 :: tl s (k + 1)) = f at *; rw [show decide ((124 : UInt8) = 40) = false from by decide] at d1; rw [show decide ((124 : UInt8) = 41) = false from by decide] at d2; rw [show decide ((124 : UInt8) = 124) = true from by decide] at d3; rw [show decide ((124 : UInt8) = 42) = false from by decide] at d4; rw [show decide ((124 : UInt8) = 46) = false from by decide] at d5; rw [show decide ((124 : UInt8) = 91) = false from by decide] at d6; have HS := Lib.hid hS; have hBw := hS.sizes.1; (have wk : IntKind.i64.wrap ((k : Int) + 1) = (k : Int) + 1 := by rw [IntKind.wrap_i64]; omega); (have hself : tl s k = 124 :: tl s (k + 1) := by rw [hz, hc])
  by_cases hp : top.parts = []
  · obtain ⟨rows, parts⟩ := top; simp only at hp; subst hp
    have HRF := Lib.hid (show Ref l0 (tl s k) from by
      rw [hself]
      exact hst.bare rfl (notAt_cons (by decide)) (notAt_cons (by decide)) (notAt_cons (by decide)) (sgn_bad_cons 124 _ (by decide) (by decide)) (.inl (notAt_cons (by decide))))
    clear hst hself hz hc; clear hS; go_enter Tryz.func51, Tryz.ntmps51; go_wp2_with fail; refine KF.out.mono ?_; rintro e w1 ⟨rfl, hb1⟩; have hS1 := HS.out.below hb1; have HB1 := Lib.hid (hb1.mono hBw); have KS := Lib.hid (endRow_no hS1 (by omega)); clear hS1; go_wp2_with fail; refine KS.out.mono ?_; rintro e w2 ⟨rfl, hb2⟩; exact ⟨rfl, HB1.out.trans hb2, .inr ⟨k, by omega, rfl, HRF.out⟩⟩
  · have HST := Lib.hid (hst.bar hp)
    have HBN := Lib.hid (show Bnd (k + 1) low ⟨top.rows ++ [foldE .seq top.parts], []⟩ from by
      have h := hbn.mono (Nat.le_succ k)
      exact ⟨h.1, h.2.1, by simp; omega, by simp⟩)
    have HP := Lib.hid hp; clear hst hself hz hc hp hbn; clear hS; go_enter Tryz.func51, Tryz.ntmps51; go_wp2_with fail; refine KF.out.mono ?_; rintro e w1 ⟨rfl, hb1⟩; have hS1 := HS.out.below hb1; have HB1 := Lib.hid (hb1.mono hBw); have KS := Lib.hid (endRow_yes hS1 (by omega) (by omega) (by omega) HP.out); clear hS1; go_wp2_with fail; refine KS.out.mono ?_; rintro e w2 ⟨rfl, hb2, col2, G2, cap2, vlow2, vr2, vp2, hf2, hS2⟩; have hS3 := hS2.but ((But.refl D _ _).set 1 (.int .i64 ((k : Int) + 1))) (hS2.rd.go (k + 1)); have HB3 := Lib.hid ((HB1.out.trans hb2).setCell (p := ⟨D, 1, none⟩) HS.out.ge (.int .i64 ((k : Int) + 1))); obtain ⟨c0, c1, c2⟩ := hS2.rd.cells; obtain ⟨f0, f1, f2⟩ := hS2.rd.frozen; have HS3 := Lib.hid hS3; clear hS2 hS3 hb2 hf2; go_wp2; go_end0; exact ⟨HB3.out, .inl ⟨rfl, k + 1, _, _, by omega, by omega, ⟨_, _, _, _, _, _, HS3.out⟩, HST.out, HBN.out⟩⟩
set_option maxHeartbeats 4000000 in
theorem next_dot {B D : Nat} {col : Nat → Nat} {w : World} {s : ByteArray} {k G cap : Nat} {vlow : List (Value × Value)} {vr vp : Value} {low : List Lv} {top : Lv} (hS : StC B D col w s k G cap vlow vr vp low top) {l0 : List UInt8} (hs : s.size ≤ 65536) (hk : k < s.size) (hst : StkSt l0 low top (tl s k)) (hbn : Bnd k low top) (hc : s[k] = 46) :
    Calls Tryz.prog 51 #[.pointer (some ⟨D, 0, none⟩)] w (NxtPost B D s l0 k w) := by
  have hn := hbn.1; have hnr := hbn.2.2.1; have hnp := hbn.2.2.2; have KF := Lib.hid (front_any hS.rd (by omega) (by omega)); have hz := tl_cons s k hk; rw [hz, hc] at KF hst; obtain ⟨d1, d2, d3, d4, d5, d6⟩ := frt_of 46 (tl s (k + 1)); generalize frS (46 :: tl s (k + 1)) = f at *; rw [show decide ((46 : UInt8) = 40) = false from by decide] at d1; rw [show decide ((46 : UInt8) = 41) = false from by decide] at d2; rw [show decide ((46 : UInt8) = 124) = false from by decide] at d3; rw [show decide ((46 : UInt8) = 42) = false from by decide] at d4; rw [show decide ((46 : UInt8) = 46) = true from by decide] at d5; rw [show decide ((46 : UInt8) = 91) = false from by decide] at d6; have HS := Lib.hid hS; have hBw := hS.sizes.1; (have wk : IntKind.i64.wrap ((k : Int) + 1) = (k : Int) + 1 := by rw [IntKind.wrap_i64]; omega); have HST := Lib.hid (hst.add (PX.dot _)); have HBN := Lib.hid (hbn.add (a := .cls Ws.full) (Nat.le_refl (k + 1))); have KR := Lib.hid fun W => range_any 0 255 W (by decide) (by decide); rw [rng_full, show ((0 : Nat) : Int) = 0 from rfl, show ((255 : Nat) : Int) = 255 from rfl] at KR; have KO := Lib.hid fun W => ofX_any Ws.full W Ws.full_ok; rw [show ofR Ws.full = (Ex.cls Ws.full).rx from by rw [← ofR_ex, ofS_ne full_ne]] at KO; clear hst hz hc hbn; clear hS; go_enter Tryz.func51, Tryz.ntmps51; go_wp2_with fail; refine KF.out.mono ?_; rintro e w1 ⟨rfl, hb1⟩; have hS1 := HS.out.below hb1; have HB1 := Lib.hid (hb1.mono hBw); have hS2 := hS1.but ((But.refl D _ _).set 1 (.int .i64 ((k : Int) + 1))) (hS1.rd.go (k + 1)); have HB2 := Lib.hid (HB1.out.setCell (p := ⟨D, 1, none⟩) HS.out.ge (.int .i64 ((k : Int) + 1))); obtain ⟨c0, c1, c2⟩ := hS1.rd.cells; obtain ⟨f0, f1, f2⟩ := hS1.rd.frozen; have HS2 := Lib.hid hS2; clear hS1 hS2 hb1; generalize Ws.full = q at *; go_wp2_with fail; refine (KR.out _).mono ?_; rintro e w2 ⟨rfl, hb2⟩; go_wp2_with fail; refine (KO.out _).mono ?_; rintro e w3 ⟨v, rfl, hv, hb3⟩; have hb := hb2.trans (hb3.mono hb2.size); have KA := Lib.hid (add_new HS2.out (by omega) (by omega) hb hv hb2.size); have HB3 := Lib.hid (HB2.out.trans (hb.mono HS2.out.sizes.1)); clear hv hb2 hb3 hb; go_wp2_with fail; refine KA.out.mono ?_; rintro e w4 hpost; obtain ⟨rfl, hnx⟩ := nxt_ok HB3.out hpost (Nat.lt_succ_self k) (by omega) HST.out HBN.out; go_wp2; go_end0; exact hnx
open Go.RowKit
theorem low_or (low : List Lv) : low = [] ∨ ∃ l lv, low = l ++ [lv] := by
  by_cases h : low = []
  · exact .inl h
  · exact .inr ⟨low.dropLast, low.getLast h, (List.dropLast_concat_getLast h).symm⟩
theorem pcls_suffix {q : Ws} {l r : List UInt8} (h : PCls q l (.bad r)) : r <:+ l := by
  generalize hx : PR.bad r = x at h
  induction h with
  | done => cases hx
  | bad1 _ hs => cases hx; exact sgn_bad hs
  | one _ hs _ _ ih => exact (ih hx).trans (sgn_ok hs).2.1
  | bad2 _ hs hs2 => cases hx; exact (sgn_bad hs2).trans ((List.suffix_cons _ _).trans (sgn_ok hs).2.1)
  | less _ hs _ _ => cases hx; exact (List.suffix_cons _ _).trans (sgn_ok hs).2.1
  | range _ hs hs2 _ _ ih => exact (ih hx).trans ((sgn_ok hs2).2.1.trans ((List.suffix_cons _ _).trans (sgn_ok hs).2.1))
set_option maxHeartbeats 4000000 in
theorem next_cls {B D : Nat} {col : Nat → Nat} {w : World} {s : ByteArray} {k G cap : Nat} {vlow : List (Value × Value)} {vr vp : Value} {low : List Lv} {top : Lv} (hS : StC B D col w s k G cap vlow vr vp low top) {l0 : List UInt8} (hs : s.size ≤ 65536) (hk : k < s.size) (hst : StkSt l0 low top (tl s k)) (hbn : Bnd k low top) (hc : s[k] = 91) :
    Calls Tryz.prog 51 #[.pointer (some ⟨D, 0, none⟩)] w (NxtPost B D s l0 k w) := by
  have hn := hbn.1; have hnr := hbn.2.2.1; have hnp := hbn.2.2.2; have KF := Lib.hid (front_any hS.rd (by omega) (by omega)); have hz := tl_cons s k hk; rw [hz, hc] at KF hst; obtain ⟨d1, d2, d3, d4, d5, d6⟩ := frt_of 91 (tl s (k + 1)); generalize frS (91 :: tl s (k + 1)) = f at *; rw [show decide ((91 : UInt8) = 40) = false from by decide] at d1; rw [show decide ((91 : UInt8) = 41) = false from by decide] at d2; rw [show decide ((91 : UInt8) = 124) = false from by decide] at d3; rw [show decide ((91 : UInt8) = 42) = false from by decide] at d4; rw [show decide ((91 : UInt8) = 46) = false from by decide] at d5; rw [show decide ((91 : UInt8) = 91) = true from by decide] at d6; have HS := Lib.hid hS; have hBw := hS.sizes.1; (have wk : IntKind.i64.wrap ((k : Int) + 1) = (k : Int) + 1 := by rw [IntKind.wrap_i64]; omega); (have hself : tl s k = 91 :: tl s (k + 1) := by rw [hz, hc]); obtain ⟨res, hres⟩ := PCls.total _ Ws.nil (tl s (k + 1)) (Nat.le_refl _); have hpx := PX.cls hres; have hfact := hpx.fact; have KI := Lib.hid fun W vl (h : RdB W D s k vl) hv => items_any (vl := vl) h (by omega) hk hv res hres
  cases res with
  | bad r =>
    have hrs : r <:+ tl s (k + 1) := pcls_suffix hres; obtain ⟨k1, hk1, hpos1, hl1, hln1⟩ := lpos hrs
    have HRF := Lib.hid (show Ref l0 (tl s k1) from by
      rw [← hl1]
      exact .inl (hst.atomBad hpx (.inr rfl) (.inl (notAt_cons (by decide)))))
    clear hst hself hz hc hfact hpx hres hrs hl1; clear hS; go_enter Tryz.func51, Tryz.ntmps51; go_wp2_with fail; refine KF.out.mono ?_; rintro e w1 ⟨rfl, hb1⟩; have hS1 := HS.out.below hb1; have HB1 := Lib.hid (hb1.mono hBw); have KI1 := Lib.hid (KI.out w1 _ hS1.rd (by simp)); have hS1B := hS1.ge; clear hS1; go_wp2_with fail; refine KI1.out.mono ?_; rintro e w2 ⟨hb2, he⟩; simp only at he; rw [hpos1] at he; subst he; exact ⟨rfl, HB1.out.trans ((hb2.mono (Nat.le_trans hBw hb1.size)).below hS1B), .inr ⟨k1, hk1, rfl, HRF.out⟩⟩
  | ok ex l1 =>
    obtain ⟨_, hsuf, hll, _⟩ := hfact; rw [← hself] at hsuf hll; rw [tl_len] at hll; obtain ⟨k1, hk1, hpos1, hl1, hln1⟩ := lpos hsuf; rw [hl1] at hpx; have HST := Lib.hid (hst.add hpx); have HBN := Lib.hid (hbn.add (a := ex) (m := k1) (by omega)); clear hst hself hz hc hpx hres hbn hsuf; clear hS; go_enter Tryz.func51, Tryz.ntmps51; go_wp2_with fail; refine KF.out.mono ?_; rintro e w1 ⟨rfl, hb1⟩; have hS1 := HS.out.below hb1; have HB1 := Lib.hid (hb1.mono hBw); have KI1 := Lib.hid (KI.out w1 _ hS1.rd (by simp)); have HS1 := Lib.hid hS1; clear hS1; go_wp2_with fail; refine KI1.out.mono ?_; rintro e w2 ⟨hb2, q, hq, hqe, he, hr2⟩; subst he; rw [hpos1] at hr2; have hS2 := HS1.out.but hb2 hr2; have HB2 := Lib.hid (HB1.out.trans ((hb2.mono (Nat.le_trans hBw hb1.size)).below HS.out.ge)); have HS2 := Lib.hid hS2; have KO := Lib.hid fun W => ofX_any q W hq; rw [show ofR q = ex.rx from by rw [← ofR_ex, hqe]] at KO; clear hS2 hb2 hr2 hqe; go_wp2_with fail; refine (KO.out _).mono ?_; rintro e w3 ⟨v, rfl, hv, hb3⟩; have KA := Lib.hid (add_new HS2.out (by omega) (by omega) hb3 hv (Nat.le_refl _)); have HB3 := Lib.hid (HB2.out.trans (hb3.mono HS2.out.sizes.1)); clear hv hb3; go_wp2_with fail; refine KA.out.mono ?_; rintro e w4 hpost; obtain ⟨rfl, hnx⟩ := nxt_ok HB3.out hpost (show k < k1 from by omega) hk1 HST.out HBN.out; go_wp2; go_end0; exact hnx
set_option maxHeartbeats 4000000 in
theorem next_close {B D : Nat} {col : Nat → Nat} {w : World} {s : ByteArray} {k G cap : Nat} {vlow : List (Value × Value)} {vr vp : Value} {low : List Lv} {top : Lv} (hS : StC B D col w s k G cap vlow vr vp low top) {l0 : List UInt8} (hs : s.size ≤ 65536) (hk : k < s.size) (hst : StkSt l0 low top (tl s k)) (hbn : Bnd k low top) (hc : s[k] = 41) :
    Calls Tryz.prog 51 #[.pointer (some ⟨D, 0, none⟩)] w (NxtPost B D s l0 k w) := by
  have hn := hbn.1; have hnr := hbn.2.2.1; have hnp := hbn.2.2.2; have KF := Lib.hid (front_any hS.rd (by omega) (by omega)); have hz := tl_cons s k hk; rw [hz, hc] at KF hst; obtain ⟨d1, d2, d3, d4, d5, d6⟩ := frt_of 41 (tl s (k + 1)); generalize frS (41 :: tl s (k + 1)) = f at *; rw [show decide ((41 : UInt8) = 40) = false from by decide] at d1; rw [show decide ((41 : UInt8) = 41) = true from by decide] at d2; rw [show decide ((41 : UInt8) = 124) = false from by decide] at d3; rw [show decide ((41 : UInt8) = 42) = false from by decide] at d4; rw [show decide ((41 : UInt8) = 46) = false from by decide] at d5; rw [show decide ((41 : UInt8) = 91) = false from by decide] at d6; have HS := Lib.hid hS; have hBw := hS.sizes.1; (have wk : IntKind.i64.wrap ((k : Int) + 1) = (k : Int) + 1 := by rw [IntKind.wrap_i64]; omega); (have hself : tl s k = 41 :: tl s (k + 1) := by rw [hz, hc]); have hsb : sgn (41 :: tl s (k + 1)) = .bad (41 :: tl s (k + 1)) := sgn_41 _
  rcases low_or low with rfl | ⟨low, lv, rfl⟩
  · have HRF := Lib.hid (show Ref l0 (tl s k) from by
      rw [hself]
      by_cases hp : top.parts = []
      · exact hst.bare hp (notAt_cons (by decide)) (notAt_cons (by decide)) (notAt_cons (by decide)) hsb (.inr (.inl rfl))
      · exact hst.ended hp (notAt_cons (by decide)) (beg_41 _) (notAt_cons (by decide)) (.inl ⟨rfl, by simp⟩))
    clear hst hself hz hc hsb; clear hS; go_enter Tryz.func51, Tryz.ntmps51; go_wp2_with fail; refine KF.out.mono ?_; rintro e w1 ⟨rfl, hb1⟩; have hS1 := HS.out.below hb1; have HB1 := Lib.hid (hb1.mono hBw); have KS := Lib.hid (closed_one hS1); clear hS1; go_wp2_with fail; refine KS.out.mono ?_; rintro e w2 ⟨rfl, hb2⟩; exact ⟨rfl, HB1.out.trans hb2, .inr ⟨k, by omega, rfl, HRF.out⟩⟩
  · by_cases hp : top.parts = []
    · obtain ⟨rows, parts⟩ := top; simp only at hp; subst hp
      by_cases hr : rows = []
      · subst hr; have HST := Lib.hid (hst.closeE rfl rfl); have HBN := Lib.hid (hbn.pop.add (a := .eps) (Nat.le_refl (k + 1))); have hpl := hbn.pop; have hpl1 := hpl.1; have hpl2 := hpl.2.2.2; clear hst hself hz hc hsb hbn hpl; clear hS; go_enter Tryz.func51, Tryz.ntmps51; go_wp2_with fail; refine KF.out.mono ?_; rintro e w1 ⟨rfl, hb1⟩; have hS1 := HS.out.below hb1; have HB1 := Lib.hid (hb1.mono hBw); have KS := Lib.hid (closed_eps hS1 (by omega) (by omega)); clear hS1; go_wp2_with fail; refine KS.out.mono ?_; rintro e w2 ⟨col2, G2, cap2, vlow2, vr2, vp2, y0, y1, y2, y3, y4, yl, yn, yc, rfl, hb2, hf2, hS2, hre2⟩; have KA := Lib.hid (add_any hS2 (by omega) (by omega) .eps _ hre2); have HB2 := Lib.hid (HB1.out.trans hb2); clear hS2 hre2 hf2 hb2; go_wp2_with fail; refine KA.out.mono ?_; rintro e w4 hpost; obtain ⟨rfl, hnx⟩ := nxt_ok HB2.out hpost (Nat.lt_succ_self k) (by omega) HST.out HBN.out; go_wp2; go_end0; exact hnx
      · have HRF := Lib.hid (show Ref l0 (tl s k) from by
          rw [hself]
          exact hst.bare rfl (notAt_cons (by decide)) (notAt_cons (by decide)) (notAt_cons (by decide)) hsb (.inr (.inr hr)))
        have HR := Lib.hid hr; clear hst hself hz hc hsb hr; clear hS; go_enter Tryz.func51, Tryz.ntmps51; go_wp2_with fail; refine KF.out.mono ?_; rintro e w1 ⟨rfl, hb1⟩; have hS1 := HS.out.below hb1; have HB1 := Lib.hid (hb1.mono hBw); have KS := Lib.hid (closed_no hS1 (by simp) (by omega) (by omega) HR.out); clear hS1; go_wp2_with fail; refine KS.out.mono ?_; rintro e w2 ⟨rfl, hb2⟩; exact ⟨rfl, HB1.out.trans hb2, .inr ⟨k, by omega, rfl, HRF.out⟩⟩
    · have HST := Lib.hid (hst.close hp); have HBN := Lib.hid (hbn.pop.add (a := foldE .alt (top.rows ++ [foldE .seq top.parts])) (Nat.le_refl (k + 1))); have hpl := hbn.pop; have hpl1 := hpl.1; have hpl2 := hpl.2.2.2; have HP := Lib.hid hp; clear hst hself hz hc hsb hbn hpl hp; clear hS; go_enter Tryz.func51, Tryz.ntmps51; go_wp2_with fail; refine KF.out.mono ?_; rintro e w1 ⟨rfl, hb1⟩; have hS1 := HS.out.below hb1; have HB1 := Lib.hid (hb1.mono hBw); have KS := Lib.hid (closed_yes hS1 (by omega) (by omega) (by omega) (by omega) HP.out); clear hS1; go_wp2_with fail; refine KS.out.mono ?_; rintro e w2 ⟨col2, G2, cap2, vlow2, vr2, vp2, y0, y1, y2, y3, y4, yl, yn, yc, rfl, hb2, hf2, hS2, hre2⟩; have KA := Lib.hid (add_any hS2 (by omega) (by omega) _ _ hre2); have HB2 := Lib.hid (HB1.out.trans hb2); clear hS2 hre2 hf2 hb2; go_wp2_with fail; refine KA.out.mono ?_; rintro e w4 hpost; obtain ⟨rfl, hnx⟩ := nxt_ok HB2.out hpost (Nat.lt_succ_self k) (by omega) HST.out HBN.out; go_wp2; go_end0; exact hnx
set_option maxHeartbeats 4000000 in
theorem next_sign {B D : Nat} {col : Nat → Nat} {w : World} {s : ByteArray} {k G cap : Nat} {vlow : List (Value × Value)} {vr vp : Value} {low : List Lv} {top : Lv} (hS : StC B D col w s k G cap vlow vr vp low top) {l0 : List UInt8} (hs : s.size ≤ 65536) (hk : k < s.size) (hst : StkSt l0 low top (tl s k)) (hbn : Bnd k low top) (n40 : s[k] ≠ 40) (n41 : s[k] ≠ 41) (n124 : s[k] ≠ 124) (n42 : s[k] ≠ 42) (n46 : s[k] ≠ 46) (n91 : s[k] ≠ 91) :
    Calls Tryz.prog 51 #[.pointer (some ⟨D, 0, none⟩)] w (NxtPost B D s l0 k w) := by
  have hn := hbn.1; have hnp := hbn.2.2.2; have KF := Lib.hid (front_any hS.rd (by omega) (by omega)); have hz := tl_cons s k hk; obtain ⟨d1, d2, d3, d4, d5, d6⟩ := frt_of s[k] (tl s (k + 1)); rw [hz] at KF; generalize frS (s[k] :: tl s (k + 1)) = f at *; rw [decide_eq_false n40] at d1; rw [decide_eq_false n41] at d2; rw [decide_eq_false n124] at d3; rw [decide_eq_false n42] at d4; rw [decide_eq_false n46] at d5; rw [decide_eq_false n91] at d6; (have m40 : NotAt 40 (tl s k) := by rw [hz]; exact notAt_cons n40); (have m41 : NotAt 41 (tl s k) := by rw [hz]; exact notAt_cons n41); (have m124 : NotAt 124 (tl s k) := by rw [hz]; exact notAt_cons n124); (have m42 : NotAt 42 (tl s k) := by rw [hz]; exact notAt_cons n42); (have m46 : NotAt 46 (tl s k) := by rw [hz]; exact notAt_cons n46); (have m91 : NotAt 91 (tl s k) := by rw [hz]; exact notAt_cons n91); (have hne : tl s k ≠ [] := by rw [hz]; simp); have HS := Lib.hid hS; have hBw := hS.sizes.1; have KG := Lib.hid fun W vl (h : RdB W D s k vl) hv => rsign_any (vl := vl) h (by omega) (Nat.le_of_lt hk) hv
  cases hsg : sgn (tl s k) with
  | bad r =>
    obtain ⟨k1, hk1, hpos1, hl1, hln1⟩ := lpos (sgn_bad hsg)
    have HRF := Lib.hid (show Ref l0 (tl s k1) from by
      rw [← hl1]
      exact hst.signBad hne m46 m91 m40 m41 m42 m124 hsg)
    rw [hsg] at KG; clear hst hz hsg hl1 m40 m41 m124 m42 m46 m91 hne n40 n41 n124 n42 n46 n91; clear hS; go_enter Tryz.func51, Tryz.ntmps51; go_wp2_with fail; refine KF.out.mono ?_; rintro e w1 ⟨rfl, hb1⟩; have hS1 := HS.out.below hb1; have HB1 := Lib.hid (hb1.mono hBw); have KI1 := Lib.hid (KG.out w1 _ hS1.rd (by simp)); have hS1B := hS1.ge; clear hS1; go_wp2_with fail; refine KI1.out.mono ?_; rintro e w2 ⟨hb2, he⟩; simp only at he; rw [hpos1] at he; subst he; exact ⟨rfl, HB1.out.trans ((hb2.mono (Nat.le_trans hBw hb1.size)).below hS1B), .inr ⟨k1, hk1, rfl, HRF.out⟩⟩
  | ok b l1 =>
    obtain ⟨hb256, hsuf, hll⟩ := sgn_ok hsg; obtain ⟨k1, hk1, hpos1, hl1, hln1⟩ := lpos hsuf; rw [tl_len] at hll; (have hsg' : sgn (tl s k) = .ok b (tl s k1) := by rw [← hl1]; exact hsg); have HST := Lib.hid (hst.add (PX.sign m46 m91 m40 hsg')); have HBN := Lib.hid (hbn.add (a := .cls (rngW b b)) (m := k1) (by omega)); have KO := Lib.hid fun W => ofX_any (rngW b b) W (rng_ok b b); rw [show ofR (rngW b b) = (Ex.cls (rngW b b)).rx from by rw [← ofR_ex, ofS_ne (rng_ne hb256)]] at KO; rw [hsg] at KG; clear hst hz hsg hsg' hl1 hsuf hbn m40 m41 m124 m42 m46 m91 hne n40 n41 n124 n42 n46 n91; clear hS; go_enter Tryz.func51, Tryz.ntmps51; go_wp2_with fail; refine KF.out.mono ?_; rintro e w1 ⟨rfl, hb1⟩; have hS1 := HS.out.below hb1; have HB1 := Lib.hid (hb1.mono hBw); have KI1 := Lib.hid (KG.out w1 _ hS1.rd (by simp)); have HS1 := Lib.hid hS1; clear hS1; go_wp2_with fail; refine KI1.out.mono ?_; rintro e w2 ⟨hb2, he, hr2⟩; subst he; rw [hpos1] at hr2; have hS2 := HS1.out.but hb2 hr2; have HB2 := Lib.hid (HB1.out.trans ((hb2.mono (Nat.le_trans hBw hb1.size)).below HS.out.ge)); have HS2 := Lib.hid hS2; have KF2 := Lib.hid (setOf_any (some ⟨w2.heap.size, 0, none⟩) [UInt8.ofNat b] 1 (w2.alloc (.cells #[.int .u8 (b : Int)] 5)) (one_byte w2 b hb256)); rw [ret_one b hb256] at KF2; clear hS2 hb2 hr2; generalize rngW b b = q at *; go_wp2_with fail; refine KF2.out.mono ?_; rintro e w3 ⟨rfl, hb3⟩; have hb3' := below_al hb3; go_wp2_with fail; refine (KO.out _).mono ?_; rintro e w4 ⟨v, rfl, hv, hb4⟩; have hb := hb3'.trans (hb4.mono hb3'.size); have KA := Lib.hid (add_new HS2.out (by omega) (by omega) hb hv hb3'.size); have HB3 := Lib.hid (HB2.out.trans (hb.mono HS2.out.sizes.1)); clear hv hb3 hb4 hb hb3'; go_wp2_with fail; refine KA.out.mono ?_; rintro e w5 hpost; obtain ⟨rfl, hnx⟩ := nxt_ok HB3.out hpost (show k < k1 from by omega) hk1 HST.out HBN.out; go_wp2; go_end0; exact hnx
theorem next_any {B D : Nat} {w : World} {s : ByteArray} {k : Nat} {low : List Lv} {top : Lv} (hS : StE B D w s k low top) {l0 : List UInt8} (hs : s.size ≤ 65536) (hk : k < s.size) (hst : StkSt l0 low top (tl s k)) (hbn : Bnd k low top) :
    Calls Tryz.prog 51 #[.pointer (some ⟨D, 0, none⟩)] w (NxtPost B D s l0 k w) := by
  obtain ⟨col, G, cap, vlow, vr, vp, hS⟩ := hS
  by_cases n40 : s[k] = 40
  · exact next_open hS hs hk hst hbn n40
  by_cases n41 : s[k] = 41
  · exact next_close hS hs hk hst hbn n41
  by_cases n124 : s[k] = 124
  · exact next_bar hS hs hk hst hbn n124
  by_cases n42 : s[k] = 42
  · exact next_star hS hs hk hst hbn n42
  by_cases n46 : s[k] = 46
  · exact next_dot hS hs hk hst hbn n46
  by_cases n91 : s[k] = 91
  · exact next_cls hS hs hk hst hbn n91
  exact next_sign hS hs hk hst hbn n40 n41 n124 n42 n46 n91
open Go.RowKit
def errE (n : Nat) : Ending := .panicked [{ v := .iface 56 (.int .i64 n), recovered := false }]
def noE (k err : Nat) : Ending := if err = 2 then thr k else errE err
def WhPost (w : World) (rd : RD) (e : Ending) (w' : World) : Prop := Below w.heap.size w w' ∧ match rd with
  | .ok ex => ∃ v, e = .returned v ∧ ReAt (New w.heap.size) w' v ex.rx
  | .no k err => e = noE k err
theorem ref_top {s : ByteArray} {res : PR} {k : Nat} (hs : s.size ≤ 65536) (hres : PX .alt (tl s 0) res) (hk : k ≤ s.size) (h : Ref (tl s 0) (tl s k)) : topR s.size res = .no k 2 := by
  (have hbig : ¬ 65536 < s.size := by omega); (have hl : s.size - (tl s k).length = k := by rw [tl_len]; omega)
  rcases h with h | ⟨e, hne, h⟩
  · obtain rfl := hres.det h; unfold topR; rw [if_neg hbig]; simp only [hl]
  · obtain rfl := hres.det h; unfold topR; rw [if_neg hbig]; simp only [if_neg hne, hl]
theorem StkSt.end {l0 : List UInt8} {top : Lv} (h : StkSt l0 [] top []) (hp : top.parts ≠ []) : PX .alt l0 (.ok (foldE .alt (top.rows ++ [foldE .seq top.parts])) []) := by
  generalize hq : ([] : List Lv) = q at h
  cases h with
  | base h => exact (h.done hp (notAt_nil _) rfl (notAt_nil _)).2
  | push => simp at hq
theorem StkSt.endNo {l0 : List UInt8} {low : List Lv} {top : Lv} (h : StkSt l0 low top []) (hn : low ≠ [] ∨ top.parts = []) : Ref l0 [] := by
  by_cases hp : top.parts = []
  · exact h.bare hp (notAt_nil _) (notAt_nil _) (notAt_nil _) rfl (.inl (notAt_nil _))
  · rcases hn with hn | hn
    · exact h.ended hp (notAt_nil _) rfl (notAt_nil _) (.inr ⟨hn, notAt_nil _⟩)
    · exact absurd hn hp
def begW (w : World) (s : ByteArray) : World := ((w.alloc nilBlk).alloc (.cells #[.slice none 0 0, .slice none 0 0] 108)).alloc (.cells #[.string s, .int .i64 0, .slice (some ⟨w.heap.size + 1, 0, none⟩) 1 1] 111)
theorem beg_size (w : World) (s : ByteArray) : (begW w s).heap.size = w.heap.size + 3 := by unfold begW; simp
theorem beg_state (w : World) (s : ByteArray) : StE (w.heap.size + 1) (w.heap.size + 2) (begW w s) s 0 [] ⟨[], []⟩ := by
  refine ⟨fun b => if b = w.heap.size + 1 then 2 else if b = w.heap.size + 2 then 1 else 0, w.heap.size + 1, 1, [], .slice none 0 0, .slice none 0 0, ?_⟩; have hG : (begW w s).heap[w.heap.size + 1]? = some (.cells #[.slice none 0 0, .slice none 0 0] 108) := (Below.heap_alloc _ _ _ (by simp)).trans (blk_at _ _ (by simp)); refine ⟨blk_at _ _ (by simp), by omega, by simp, ⟨rfl, .inr ⟨w.heap.size + 1, 1, #[.slice none 0 0, .slice none 0 0], rfl, Nat.le_refl _, hG, Nat.le_refl _, by unfold maxLen; omega, rfl, rfl⟩⟩, by simp, ⟨rfl, fun i hi => absurd hi (by simp)⟩, ⟨RwC.nil _ _ _ _, RwC.nil _ _ _ _⟩, fun b hb => ?_⟩; rw [beg_size] at hb; rw [if_neg (by omega), if_neg (by omega)]
theorem beg_box (w : World) (s : ByteArray) : (begW w s).heap[w.heap.size]? = some nilBlk := (Below.heap_alloc _ _ _ (by simp; omega)).trans ((Below.heap_alloc _ _ _ (by simp)).trans (blk_new w _))
theorem beg_below (w : World) (s : ByteArray) : Below w.heap.size w (begW w s) := (((Below.refl _ w).alloc (Nat.le_refl _) _).alloc (by simp) _).alloc (by simp; omega) _
def whInv (s : ByteArray) (w wr : World) : Prop := ∃ k low top, k ≤ s.size ∧ StE (w.heap.size + 1) (w.heap.size + 2) wr s k low top ∧ StkSt (tl s 0) low top (tl s k) ∧ Bnd k low top ∧ Below (w.heap.size + 1) (begW w s) wr
theorem StE.rd {B D : Nat} {w : World} {s : ByteArray} {k : Nat} {low : List Lv} {top : Lv} (h : StE B D w s k low top) : ∃ G cap, RdB w D s k (.slice (some ⟨G, 0, none⟩) (low.length + 1) cap) := by
  obtain ⟨col, G, cap, vlow, vr, vp, h⟩ := h; exact ⟨G, cap, h.rd⟩
theorem wh_thr {s : ByteArray} {w W w' : World} {rd : RD} {k : Nat} (hr : rd = .no k 2) (hb : Below (w.heap.size + 1) (begW w s) W) (hb' : Below (w.heap.size + 1) W w') : WhPost w rd (thr k) w' := by
  subst hr; exact ⟨(beg_below w s).trans ((hb.trans hb').mono (by omega)), rfl⟩
set_option maxHeartbeats 4000000 in
theorem rwhole_long {s : ByteArray} (w : World) (res : PR) (hs : 65536 < s.size) :
    Calls Tryz.prog 37 #[.string s] w (WhPost w (topR s.size res)) := by
  have d0 : decide ((65536 : Int) < (s.size : Int)) = true := decide_eq_true (by omega); (have hr : topR s.size res = .no 0 3 := by unfold topR; rw [if_pos hs]); rw [hr]; clear hr; go_enter Tryz.func37, Tryz.ntmps37; go_wp2; exact ⟨rfl, (Below.refl _ w).alloc (Nat.le_refl _) _, rfl⟩
set_option maxHeartbeats 8000000 in
theorem rwhole_any {s : ByteArray} (w : World) (res : PR) (hs : s.size ≤ 65536) (hres : PX .alt (tl s 0) res) :
    Calls Tryz.prog 37 #[.string s] w (WhPost w (topR s.size res)) := by
  have d0 : decide ((65536 : Int) < (s.size : Int)) = false := decide_eq_false (by omega); have HREF := Lib.hid fun k hk h => ref_top (k := k) hs hres hk h; have HRES := Lib.hid hres; have hinv : whInv s w (begW w s) := ⟨0, [], _, Nat.zero_le _, beg_state w s, StkSt.start _, ⟨Nat.le_refl _, by simp, by simp, by simp⟩, Below.refl _ _⟩; have HI := Lib.hid hinv; unfold begW nilBlk at HI; clear hres hinv; generalize hrd : topR s.size res = rd at *; go_enter Tryz.func37, Tryz.ntmps37; go_wp2_with fail
  go_loopw [] (fun wr => whInv s w wr) (fun wr => s.size - plc (w.heap.size + 2) wr)
  case atStart => exact HI.out
  case round =>
    obtain ⟨k, low, top, hk, hS, hst, hbn, hb⟩ := hrel; obtain ⟨G, cap, hrd0⟩ := hS.rd; obtain ⟨c0, c1, c2⟩ := hrd0.cells; have HS := Lib.hid hS; have HST := Lib.hid hst; have HBN := Lib.hid hbn; have HRD := Lib.hid hrd0; clear hS hst hbn hrd0 HI
    by_cases hlt : k < s.size
    · have d1 : decide ((k : Int) < (s.size : Int)) = true := decide_eq_true (by omega); have KN := Lib.hid (next_any HS.out hs hlt HST.out HBN.out); go_wp2_with fail; refine KN.out.mono ?_; rintro e w1 ⟨hb1, hcase⟩
      rcases hcase with ⟨rfl, k', low', top', hk', hk2, hS', hst', hbn'⟩ | ⟨k', hk', rfl, href⟩
      · have HI2 := Lib.hid (show whInv s w w1 from ⟨k', low', top', hk2, hS', hst', hbn', hb.trans hb1⟩); obtain ⟨G', cap', hr'⟩ := hS'.rd; have hp1 := hr'.plc; have hp0 := HRD.out.plc; clear hS' hst' hbn' hr' hb hb1; go_wp2; exact ⟨HI2.out, by rw [hp1, hp0]; omega⟩
      · exact ⟨rfl, wh_thr (hrd ▸ HREF.out k' hk' href) hb hb1⟩
    · (have hke : k = s.size := by omega); subst hke; have d1 : decide ((s.size : Int) < (s.size : Int)) = false := decide_eq_false (by omega); have hnil : tl s s.size = [] := tl_nil s _ (Nat.le_refl _)
      by_cases hno : low ≠ [] ∨ top.parts = []
      · have HRF := Lib.hid (HREF.out s.size (Nat.le_refl _) (by rw [hnil]; exact (hnil ▸ HST.out).endNo hno))
        by_cases hl : low = []
        · subst hl
          have hp : top.parts = [] := by
            rcases hno with h | h
            · exact absurd rfl h
            · exact h
          obtain ⟨rows, parts⟩ := top; simp only at hp; subst hp; obtain ⟨col, G1, cap1, vlow, vr, vp, hSC⟩ := HS.out; have KE := Lib.hid (expr_no hSC (by simp)); have KM := Lib.hid must_yes; simp only [List.length_nil, Nat.zero_add] at c2; clear hSC hno; go_wp2_with fail; refine (KM.out _ _).mono ?_; rintro e w1 ⟨rfl, rfl⟩; go_wp2_with fail; refine KE.out.mono ?_; rintro e w2 ⟨rfl, hb2⟩; exact ⟨rfl, wh_thr (hrd ▸ HRF.out) hb hb2⟩
        · have hpos : 0 < low.length := List.length_pos_iff.2 hl; (have q1 : ((low.length : Int) + 1 == 1) = false := by simp; omega); have KM := Lib.hid (must_no HRD.out); clear hno hl; go_wp2_with fail; refine KM.out.mono ?_; rintro e w2 ⟨rfl, rfl⟩; exact ⟨rfl, wh_thr (hrd ▸ HRF.out) hb (Below.refl _ _)⟩
      · have hl : low = [] := Classical.byContradiction fun h => hno (.inl h); have hp : top.parts ≠ [] := fun h => hno (.inr h); subst hl; have hend := (hnil ▸ HST.out).end hp; obtain rfl := HRES.out.det hend; have hfe := hend.fact; obtain ⟨col, G1, cap1, vlow, vr, vp, hSC⟩ := HS.out; have hbnr := HBN.out.2.2.1; have hbnp := HBN.out.2.2.2; have KE := Lib.hid (expr_yes hSC (by simp) (by omega) (by omega) hp); have KM := Lib.hid must_yes
        have hrd' : topR s.size (.ok (foldE .alt (top.rows ++ [foldE .seq top.parts])) []) = if (foldE .alt (top.rows ++ [foldE .seq top.parts])).size ≤ 2000 then .ok (foldE .alt (top.rows ++ [foldE .seq top.parts])) else .no 0 4 := by
          unfold topR; rw [if_neg (by omega)]; simp
        have hgood := good_ex _ hfe.1; simp only [List.length_nil, Nat.zero_add] at c2; rw [hrd'] at hrd; have HRD2 := Lib.hid hrd; have hbx : wr.heap[w.heap.size]? = some nilBlk := (hb.block _ (by omega)).trans (beg_box w s); have HBX := Lib.hid hbx; clear hSC hno hend hfe hrd' hrd HREF HRES HST HBN hp hbx; generalize foldE .alt (top.rows ++ [foldE .seq top.parts]) = FE at *; go_wp2_with fail; refine (KM.out _ _).mono ?_; rintro e w1 ⟨rfl, rfl⟩; go_wp2_with fail; refine KE.out.mono ?_; rintro e w2 ⟨col2, G2, cap2, vlow2, vr2, vp2, y0, y1, y2, y3, y4, yl, yn, yc, rfl, hb2, hf2, hS2, hre2⟩; have HB2 := Lib.hid (hb.trans hb2); have HRE := Lib.hid (hre2.imp (ok' := New (w.heap.size + 1)) fun b _ h => h.1); have hbx2 := (hb2.block w.heap.size (by omega)).trans HBX.out; have HBX2 := Lib.hid hbx2; have hlt2 : w.heap.size < w2.heap.size := (Array.getElem?_eq_some_iff.1 hbx2).1; have hbig2 : w.heap.size + 1 ≤ w2.heap.size := hlt2; clear hb2 hf2 hS2 hre2 hbx2 c0 c1 c2; have hbb : Below w2.heap.size w2 ((w2.alloc (.cells #[.int .u8 y0, .int .u64 y1, .int .u64 y2, .int .u64 y3, .int .u64 y4, .slice yl yn yc] 39)).alloc (.cells #[.int .u8 y0, .int .u64 y1, .int .u64 y2, .int .u64 y3, .int .u64 y4, .slice yl yn yc] 39)) := ((Below.refl _ w2).alloc (Nat.le_refl _) _).alloc (by simp) _; have KY := Lib.hid (mayX (ok := fun _ => True) [FE.rx] (some ⟨w2.heap.size + 1, 0, none⟩) 1 ((w2.alloc (.cells #[.int .u8 y0, .int .u64 y1, .int .u64 y2, .int .u64 y3, .int .u64 y4, .slice yl yn yc] 39)).alloc (.cells #[.int .u8 y0, .int .u64 y1, .int .u64 y2, .int .u64 y3, .int .u64 y4, .slice yl yn yc] 39)) (by simp) (row_one (blk_at _ _ (by simp)) trivial ((HRE.out.below hbb).imp fun _ _ _ => trivial))); rw [show [FE.rx].all mayR = decide (FE.size ≤ 2000) from by simp [mayR, mayN, hgood, Ex.size_rx], show [FE.rx].length = 1 from rfl] at KY; have HBB := Lib.hid hbb; have HBL := Lib.hid (show ((w2.alloc (.cells #[.int .u8 y0, .int .u64 y1, .int .u64 y2, .int .u64 y3, .int .u64 y4, .slice yl yn yc] 39)).alloc (.cells #[.int .u8 y0, .int .u64 y1, .int .u64 y2, .int .u64 y3, .int .u64 y4, .slice yl yn yc] 39)).heap[w2.heap.size]? = some (.cells #[.int .u8 y0, .int .u64 y1, .int .u64 y2, .int .u64 y3, .int .u64 y4, .slice yl yn yc] 39) from (Below.heap_alloc _ _ _ (by simp)).trans (blk_new w2 _)); clear hbb hgood
        by_cases hsm : FE.size ≤ 2000
        · rw [if_pos hsm] at HRD2; rw [decide_eq_true hsm] at KY; clear hsm; go_wp2_with fail; refine KY.out.mono ?_; rintro e w3 ⟨rfl, hb3⟩; have hb23 := HBB.out.trans (hb3.mono HBB.out.size); have hr3 := (hb3.block w2.heap.size (by simp; omega)).trans HBL.out; have hbx3 := (hb23.block w.heap.size hlt2).trans HBX2.out; obtain ⟨a0, a1, a2, a3, a4, a5, -⟩ := cellsR hr3; obtain ⟨g0, g1, g2, g3, g4, g5, p0, p1, p2, p3, p4, p5⟩ := cellsR hbx3; have HP := Lib.hid (putR hbx3 (.int .u8 y0) (.int .u64 y1) (.int .u64 y2) (.int .u64 y3) (.int .u64 y4) (.slice yl yn yc))
          have HEND := Lib.hid (show WhPost w rd (.returned (.agg #[.int .u8 y0, .int .u64 y1, .int .u64 y2, .int .u64 y3, .int .u64 y4, .slice yl yn yc])) (putW w3 w.heap.size (.int .u8 y0) (.int .u64 y1) (.int .u64 y2) (.int .u64 y3) (.int .u64 y4) (.slice yl yn yc)) from by
            rw [← HRD2.out]; refine ⟨putB ((beg_below w s).trans ((HB2.out.mono (by omega)).trans (hb23.mono (by omega)))) (Nat.le_refl _) _ _ _ _ _ _, _, rfl, ?_⟩
            exact (HRE.out.below hb23).go ⟨by rw [putW_size]; exact Nat.le_refl _, fun b _ h => ⟨Nat.le_of_succ_le h, putW_other _ _ _ _ _ _ _ _ (by have h' : w.heap.size + 1 ≤ b := h; omega)⟩⟩)
          unfold putW at HP HEND; clear hb3 hb23 hr3 hbx3; go_wp2; exact ret_re HP.out Tryz.results37 rfl rfl HEND.out
        · rw [if_neg hsm] at HRD2; rw [decide_eq_false hsm] at KY; clear hsm; go_wp2_with fail; refine KY.out.mono ?_; rintro e w3 ⟨rfl, hb3⟩; have hb23 := HBB.out.trans (hb3.mono HBB.out.size)
          have HEND := Lib.hid (show WhPost w rd (errE 4) w3 from by
            rw [← HRD2.out]
            exact ⟨(beg_below w s).trans ((HB2.out.mono (by omega)).trans (hb23.mono (by omega))), rfl⟩)
          clear hb3 hb23; go_wp2; exact ⟨rfl, HEND.out⟩
open Go.RowKit
def rdW (w : World) : World := ((w.alloc nilBlk).alloc (.cells #[.int .i64 0] 3)).alloc (.cells #[.int .i64 0] 56)
set_option maxRecDepth 100000 in
set_option maxHeartbeats 4000000 in
theorem read_res {s : ByteArray} (w : World) (rd : RD) (hk0 : ∀ k err, rd = .no k err → err ≠ 2 → k = 0) (hw : Calls Tryz.prog 37 #[.string s] (rdW w) (WhPost (rdW w) rd)) :
    Calls Tryz.prog 24 #[.string s] w (RdPost w rd) := by
  have hmf : ∀ (fn : Fn) (first cap : Array Value) (w : World), (Instr.makeFunc fn first cap).run Tryz.prog w = .ok (.func fn first cap) w := fun _ _ _ _ => rfl; have HW := Lib.hid hw; have HK0 := Lib.hid hk0; unfold rdW nilBlk at HW; clear hw hk0
  go_enter_defers Tryz.func24, Tryz.ntmps24
  go_wp2_with fail; refine HW.out.mono ?_; rintro e w1 ⟨hb1, hc⟩; have hbw : Below w.heap.size w w1 := (show Below w.heap.size w (rdW w) from (((Below.refl _ w).alloc (Nat.le_refl _) _).alloc (by simp) _).alloc (by simp; omega) _).trans (hb1.mono (by simp; omega)); have hx0 : w1.heap[w.heap.size]? = some nilBlk := (hb1.block _ (by simp; omega)).trans ((Below.heap_alloc _ _ _ (by simp; omega)).trans ((Below.heap_alloc _ _ _ (by simp)).trans (blk_new w _))); have hx1 : w1.heap[w.heap.size + 1]? = some (.cells #[.int .i64 0] 3) := (hb1.block _ (by simp)).trans ((Below.heap_alloc _ _ _ (by simp)).trans (blk_at _ _ (by simp))); have hx2 : w1.heap[w.heap.size + 1 + 1]? = some (.cells #[.int .i64 0] 56) := (hb1.block _ (by simp)).trans (blk_at _ _ (by simp)); obtain ⟨g0, g1, g2, g3, g4, g5, p0, p1, p2, p3, p4, p5⟩ := cellsR hx0; (have a0 : w1.cell? ⟨w.heap.size + 1, 0, none⟩ = some (.int .i64 0) := by rw [Lib.cell_of_heap hx1]; rfl); (have b0 : w1.cell? ⟨w.heap.size + 1 + 1, 0, none⟩ = some (.int .i64 0) := by rw [Lib.cell_of_heap hx2]; rfl); have a1 : w1.frozen? ⟨w.heap.size + 1, 0, none⟩ = false := Lib.frozen_of_heap hx1 0; have b1 : w1.frozen? ⟨w.heap.size + 1 + 1, 0, none⟩ = false := Lib.frozen_of_heap hx2 0; (have n1 : ¬ w.heap.size = w.heap.size + 1 := by omega); (have n2 : ¬ w.heap.size = w.heap.size + 1 + 1 := by omega); (have n3 : ¬ w.heap.size + 1 = w.heap.size + 1 + 1 := by omega); have HBW := Lib.hid hbw
  cases rd with
  | ok ex =>
    obtain ⟨v, rfl, hv⟩ := hc; obtain ⟨y0, y1, y2, y3, y4, yl, yn, yc, rfl⟩ := cells_re hv
    have hre : ReAt (New w.heap.size) (((putW w1 w.heap.size (.int .u8 y0) (.int .u64 y1) (.int .u64 y2) (.int .u64 y3) (.int .u64 y4) (.slice yl yn yc)).setCell ⟨w.heap.size + 1, 0, none⟩ (.int .i64 0)).setCell ⟨w.heap.size + 1 + 1, 0, none⟩ (.int .i64 0)) (.agg #[.int .u8 y0, .int .u64 y1, .int .u64 y2, .int .u64 y3, .int .u64 y4, .slice yl yn yc]) ex.rx :=
      hv.go ⟨by simp [World.setCell, putW_size], fun b _ h => by
        (have h' : w.heap.size + 3 ≤ b := by have h2 := h; unfold New at h2; simp at h2; omega)
        exact ⟨by show w.heap.size ≤ b; omega, (Below.heap_setCell _ _ _ _ (by show b ≠ w.heap.size + 1 + 1; omega)).trans ((Below.heap_setCell _ _ _ _ (by show b ≠ w.heap.size + 1; omega)).trans (putW_other _ _ _ _ _ _ _ _ (by omega)))⟩⟩
    have HRE := Lib.hid hre; have HB2 := Lib.hid (((putB hbw (Nat.le_refl _) (.int .u8 y0) (.int .u64 y1) (.int .u64 y2) (.int .u64 y3) (.int .u64 y4) (.slice yl yn yc)).setCell (p := ⟨w.heap.size + 1, 0, none⟩) (by show w.heap.size ≤ w.heap.size + 1; omega) (.int .i64 0)).setCell (p := ⟨w.heap.size + 1 + 1, 0, none⟩) (by show w.heap.size ≤ w.heap.size + 1 + 1; omega) (.int .i64 0)); have HP := Lib.hid (putR hx0 (.int .u8 y0) (.int .u64 y1) (.int .u64 y2) (.int .u64 y3) (.int .u64 y4) (.slice yl yn yc)); unfold putW at HRE HB2 HP; clear hv hb1 hbw hre hx0 hx1 hx2 HW; go_wp2; refine leaves_cons (f := 36) (args := #[.pointer (some ⟨w.heap.size + 1, 0, none⟩), .pointer (some ⟨w.heap.size + 1 + 1, 0, none⟩)]) (by simp) (by simp [go_sem]) ?_; refine (catch_idle ⟨w.heap.size + 1, 0, none⟩ ⟨w.heap.size + 1 + 1, 0, none⟩ _).mono ?_; rintro e u' w'' ⟨rfl, rfl, rfl⟩; simp [Leaves, settle, results, Tryz.results24, go_sem, g0, g1, g2, g3, g4, g5, a0, b0]; exact ⟨HB2.out, _, rfl, HRE.out⟩
  | no k err =>
    simp only at hc; subst hc; unfold noE
    by_cases he : err = 2
    · subst he; rw [if_pos rfl]; unfold thr; clear hb1 hbw hx0 hx1 hx2 HW; go_wp2; refine leaves_cons (f := 36) (args := #[.pointer (some ⟨w.heap.size + 1, 0, none⟩), .pointer (some ⟨w.heap.size + 1 + 1, 0, none⟩)]) (by simp) (by simp [go_sem]) ?_; refine (catch_form (w.heap.size + 1) (w.heap.size + 1 + 1) k _ _ [] _ a0 b0 a1 b1 n3).mono ?_; rintro e u' w'' ⟨rfl, rfl, rfl⟩; simp [Leaves, settle, results, Tryz.results24, go_sem, g0, g1, g2, g3, g4, g5, a0, b0]; exact ⟨(HBW.out.setCell (p := ⟨w.heap.size + 1, 0, none⟩) (by show w.heap.size ≤ w.heap.size + 1; omega) _).setCell (p := ⟨w.heap.size + 1 + 1, 0, none⟩) (by show w.heap.size ≤ w.heap.size + 1 + 1; omega) _, rfl⟩
    · obtain rfl := HK0.out k err rfl he; rw [if_neg he]; unfold errE; clear hb1 hbw hx0 hx1 hx2 HW; go_wp2; refine leaves_cons (f := 36) (args := #[.pointer (some ⟨w.heap.size + 1, 0, none⟩), .pointer (some ⟨w.heap.size + 1 + 1, 0, none⟩)]) (by simp) (by simp [go_sem]) ?_; refine (catch_err (w.heap.size + 1) (w.heap.size + 1 + 1) err _ [] _ b0 b1).mono ?_; rintro e u' w'' ⟨rfl, rfl, rfl⟩; simp [Leaves, settle, results, Tryz.results24, go_sem, g0, g1, g2, g3, g4, g5, a0, b0]; exact ⟨HBW.out.setCell (p := ⟨w.heap.size + 1 + 1, 0, none⟩) (by show w.heap.size ≤ w.heap.size + 1 + 1; omega) _, rfl⟩
theorem topR_zero (n : Nat) (res : PR) : ∀ k err, topR n res = .no k err → err ≠ 2 → k = 0 := by
  intro k err h he; unfold topR at h
  split at h
  · cases h; rfl
  · cases res with
    | bad r => simp only [RD.no.injEq] at h; exact absurd h.2.symm he
    | ok e l =>
      simp only at h
      split at h
      · split at h
        · cases h
        · cases h; rfl
      · simp only [RD.no.injEq] at h; exact absurd h.2.symm he
theorem read_any (s : ByteArray) (w : World) (_hs : s.size ≤ 1000000000) {res : PR} (hres : PX .alt s.data.toList res) : Calls Tryz.prog 24 #[.string s] w (RdPost w (topR s.size res)) := by
  refine read_res w _ (topR_zero s.size res) ?_
  by_cases h : 65536 < s.size
  · exact rwhole_long _ res h
  · exact rwhole_any _ res (by omega) hres
open Go.RowKit
theorem readC : ReadC := fun s w hs => read_any s w hs (resOf_px s)
end Go.Proofs.YthgghaaddankoaaGreatDoor
