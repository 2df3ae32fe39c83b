/- Lemmas of mine, merged: QPRdrC. -/
import Derived.OwnWalk
import Derived.Laws.AppendOwn
import Derived.Deep.AppendLies
import Derived.Deep.RegionLaw
import Derived.Test.YthgghaaddankoaaGreatDoorQPRexJAll
import Derived.Test.YthgghaaddankoaaGreatDoorQPRexBAll
import Derived.Test.YthgghaaddankoaaGreatDoorQPRexEAll
/- Lemmas of mine. -/
namespace Go.Proofs.YthgghaaddankoaaGreatDoor
open Go.RowKit
def Tree (B : Nat) (col : Nat → Nat) (b : Nat) : Prop := B ≤ b ∧ col b = 0
def Frm (C : Nat → Prop) (col col' : Nat → Nat) (w w' : World) : Prop := w.heap.size ≤ w'.heap.size ∧ ∀ b, b < w.heap.size → col' b = col b ∧ (¬ C (col b) → w'.heap[b]? = w.heap[b]?)
theorem Frm.below {C : Nat → Prop} {col : Nat → Nat} {w w' : World} (h : Below w.heap.size w w') : Frm C col col w w' := ⟨h.size, fun b hb => ⟨rfl, fun _ => h.block b hb⟩⟩
theorem Frm.kept {B : Nat} {C : Nat → Prop} {col col' : Nat → Nat} {w w' : World} (h : Frm C col col' w w') (h0 : ¬ C 0) : Kept (Tree B col) (Tree B col') w w' :=
  ⟨h.1, fun b hb ht => ⟨⟨ht.1, by rw [(h.2 b hb).1]; exact ht.2⟩, (h.2 b hb).2 (by rw [ht.2]; exact h0)⟩⟩
theorem Frm.mono {C C' : Nat → Prop} {col col' : Nat → Nat} {w w' : World} (h : Frm C col col' w w') (hi : ∀ x, C x → C' x) : Frm C' col col' w w' := ⟨h.1, fun b hb => ⟨(h.2 b hb).1, fun hc => (h.2 b hb).2 fun e => hc (hi _ e)⟩⟩
theorem Frm.trans {C : Nat → Prop} {col col' col2 : Nat → Nat} {w w' w2 : World} (h : Frm C col col' w w') (k : Frm C col' col2 w' w2) : Frm C col col2 w w2 :=
  ⟨Nat.le_trans h.1 k.1, fun b hb => by
    have h1 := h.2 b hb; have h2 := k.2 b (Nat.lt_of_lt_of_le hb h.1)
    exact ⟨h2.1.trans h1.1, fun hc => (h2.2 (by rw [h1.1]; exact hc)).trans (h1.2 hc)⟩⟩
theorem Frm.pre {C : Nat → Prop} {col col' : Nat → Nat} {w w1 w2 : World} (h : Below w.heap.size w w1) (k : Frm C col col' w1 w2) : Frm C col col' w w2 := (Frm.below h).trans k
theorem Frm.post {C : Nat → Prop} {col col' : Nat → Nat} {w w1 w2 : World} (k : Frm C col col' w w1) (h : Below w1.heap.size w1 w2) : Frm C col col' w w2 := k.trans (Frm.below h)
def bxC : Nat := 1000000000000
def Wk (x : Nat) : Prop := x ≠ 0 ∧ x < bxC
theorem wk_of {x : Nat} (h : x ≠ 0) (h' : x < 1000000000) : Wk x := ⟨h, by unfold bxC; omega⟩
def RwC (B : Nat) (col : Nat → Nat) (c : Nat) (w : World) (v : Value) (l : List Ex) : Prop :=
  ∃ xs, w.ownsRow B 39 6 v l.length xs ∧ RowVals (Tree B col) w xs (l.map Ex.rx) ∧ ∀ g, v.ownBlock = some g → col g = c
theorem own_go {w w' : World} {B : Nat} {t : TypeId} {sz : Nat} {v : Value} {n : Nat} {xs : List Value} (h : w.ownsRow B t sz v n xs) (hk : ∀ g, v.ownBlock = some g → g < w.heap.size → w'.heap[g]? = w.heap[g]?) : w'.ownsRow B t sz v n xs := by
  obtain ⟨h1, h2⟩ := h; refine ⟨h1, ?_⟩
  rcases h2 with h2 | ⟨g, cap, cur, rfl, hB, hg, hr⟩
  · exact .inl h2
  · exact .inr ⟨g, cap, cur, rfl, hB, (hk g rfl (Array.getElem?_eq_some_iff.1 hg).1).trans hg, hr⟩
theorem RwC.frame {B c0 : Nat} {C : Nat → Prop} {col col' : Nat → Nat} {w w' : World} {v : Value} {l : List Ex} (h : RwC B col c0 w v l) (hf : Frm C col col' w w') (hc : ¬ C c0) (h0 : ¬ C 0) : RwC B col' c0 w' v l := by
  obtain ⟨xs, h1, h2, h3⟩ := h
  have hlt : ∀ g, v.ownBlock = some g → g < w.heap.size := by
    intro g hg; obtain ⟨_, ⟨rfl, _⟩ | ⟨g', cap, cur, rfl, hB, hg', _⟩⟩ := h1
    · simp [Value.ownBlock] at hg
    · simp [Value.ownBlock] at hg; subst hg; exact (Array.getElem?_eq_some_iff.1 hg').1
  refine ⟨xs, own_go h1 fun g hg hl => (hf.2 g hl).2 (by rw [h3 g hg]; exact hc), h2.go (hf.kept h0), fun g hg => by rw [(hf.2 g (hlt g hg)).1]; exact h3 g hg⟩
theorem RwC.nil (B : Nat) (col : Nat → Nat) (c : Nat) (w : World) : RwC B col c w (.slice none 0 0) [] := ⟨[], ⟨rfl, .inl ⟨rfl, rfl⟩⟩, RowVals.nil _ _, fun g hg => by simp [Value.ownBlock] at hg⟩
theorem own_set {w : World} {B : Nat} {t : TypeId} {sz g n cap : Nat} {xs : List Value} (h : w.ownsRow B t sz (.slice (some ⟨g, 0, none⟩) n cap) n xs) (o : Nat) (u : Value) : (w.setCell ⟨g, o, none⟩ u).ownsRow B t sz (.slice (some ⟨g, 0, none⟩) n cap) n (xs.set o u) := by
  obtain ⟨h1, ⟨e, _⟩ | ⟨g', cap', cur, e, hB, hg, hn, hm, hs, ht⟩⟩ := h
  · simp at e
  · simp at e; obtain ⟨rfl, rfl⟩ := e; refine ⟨by simpa using h1, .inr ⟨g, cap, cur.setIfInBounds o u, rfl, hB, by simp [World.setCell, Array.getElem?_modify, hg], hn, hm, by simpa using hs, ?_⟩⟩; rw [← ht]; simp [List.take_set]
theorem own_put6 {w : World} {B : Nat} {g n cap : Nat} {xs : List Value} {z0 z1 z2 z3 z4 z5 : Value} (hx : xs.length = n * 6) (h : w.ownsRow B 39 6 (.slice (some ⟨g, 0, none⟩) (n + 1) cap) (n + 1) (xs ++ [z0, z1, z2, z3, z4, z5])) (y0 y1 y2 y3 y4 y5 : Value) :
    (put6 w g (n * 6) y0 y1 y2 y3 y4 y5).ownsRow B 39 6 (.slice (some ⟨g, 0, none⟩) (n + 1) cap) (n + 1) (xs ++ [y0, y1, y2, y3, y4, y5]) := by
  have e := own_set (own_set (own_set (own_set (own_set (own_set h (n * 6) y0) (n * 6 + 1) y1) (n * 6 + 2) y2) (n * 6 + 3) y3) (n * 6 + 4) y4) (n * 6 + 5) y5
  have hl : ((((((xs ++ [z0, z1, z2, z3, z4, z5]).set (n * 6) y0).set (n * 6 + 1) y1).set (n * 6 + 2) y2).set (n * 6 + 3) y3).set (n * 6 + 4) y4).set (n * 6 + 5) y5 = xs ++ [y0, y1, y2, y3, y4, y5] := by
    rw [← hx]; simp [List.set_append_right]
  rw [hl] at e; exact e
def upd (col : Nat → Nat) (g c : Nat) : Nat → Nat := fun b => if b = g then c else col b
theorem upd_at (col : Nat → Nat) (g c : Nat) : upd col g c g = c := by simp [upd]
theorem upd_far (col : Nat → Nat) {g c b : Nat} (h : b ≠ g) : upd col g c b = col b := by simp [upd, h]
theorem grown_frame {w wA w2 w3 : World} {col : Nat → Nat} {v : Value} {g G c cc : Nat} (hA : Below w.heap.size w wA) (hgrow : wA.grownBy w2 v.ownBlock) (hat : v.ownBlock = some g ∨ g = wA.heap.size) (hcol : ∀ g, v.ownBlock = some g → col g = c) (hs : w2.heap.size ≤ w3.heap.size) (h3 : ∀ b, b ≠ g → b ≠ G → w3.heap[b]? = w2.heap[b]?) (hG : col G = cc) : Frm (fun x => x = cc ∨ x = c) col (upd col g c) w w3 := by
  refine ⟨Nat.le_trans hA.size (Nat.le_trans hgrow.size hs), fun b hb => ?_⟩; have hsz := hA.size
  constructor
  · by_cases e : b = g
    · subst e; rw [upd_at]
      rcases hat with hat | hat
      · exact (hcol _ hat).symm
      · omega
    · rw [upd_far _ e]
  · intro hc; have hbG : b ≠ G := fun e => hc (.inl (by rw [e]; exact hG)); have hbv : ¬ v.ownBlock = some b := fun e => hc (.inr (hcol b e))
    have hbg : b ≠ g := by
      intro e
      rcases hat with hat | hat
      · exact hbv (by rw [e]; exact hat)
      · omega
    rw [h3 b hbg hbG, hgrow.block b (by omega) (fun e => hbv e.symm), hA.block b hb]
theorem RwC.pushed {B c g cap : Nat} {C : Nat → Prop} {col : Nat → Nat} {w w3 : World} {l : List Ex} {a : Ex} {xs : List Value} {x0 x1 x2 x3 x4 x5 : Value} (h0 : ¬ C 0) (hvals : RowVals (Tree B col) w xs (l.map Ex.rx)) (hre : ReAt (Tree B col) w (.agg #[x0, x1, x2, x3, x4, x5]) a.rx)
    (hfr : Frm C col (upd col g c) w w3) (hown : w3.ownsRow B 39 6 (.slice (some ⟨g, 0, none⟩) (l.length + 1) cap) (l.length + 1) (xs ++ [x0, x1, x2, x3, x4, x5])) :
    RwC B (upd col g c) c w3 (.slice (some ⟨g, 0, none⟩) (l.length + 1) cap) (l ++ [a]) := by
  refine ⟨xs ++ [x0, x1, x2, x3, x4, x5], by simpa using hown, ?_, fun g' hg' => ?_⟩
  · rw [List.map_append]; exact (hvals.go (hfr.kept h0)).append (RowVals.one (hre.go (hfr.kept h0)))
  · simp [Value.ownBlock] at hg'; subst hg'; exact upd_at _ _ _
def flat (vs : List (Value × Value)) : List Value := vs.flatMap fun p => [p.1, p.2]
theorem flat_len (vs : List (Value × Value)) : (flat vs).length = vs.length * 2 := by
  induction vs with
  | nil => rfl
  | cons p t ih => simp only [flat, List.flatMap_cons, List.length_append, List.length_cons, List.length_nil] at ih ⊢; omega
theorem flat_snoc (vs : List (Value × Value)) (p : Value × Value) : flat (vs ++ [p]) = flat vs ++ [p.1, p.2] := by simp [flat]
def LvC (B : Nat) (col : Nat → Nat) (w : World) (i : Nat) (p : Value × Value) (lv : Lv) : Prop := RwC B col (3 + 2 * i) w p.1 lv.rows ∧ RwC B col (4 + 2 * i) w p.2 lv.parts
theorem LvC.frame {B i : Nat} {C : Nat → Prop} {col col' : Nat → Nat} {w w' : World} {p : Value × Value} {lv : Lv} (h : LvC B col w i p lv) (hf : Frm C col col' w w') (h0 : ¬ C 0) (h3 : ¬ C (3 + 2 * i)) (h4 : ¬ C (4 + 2 * i)) : LvC B col' w' i p lv :=
  ⟨h.1.frame hf h3 h0, h.2.frame hf h4 h0⟩
def LowC (B : Nat) (col : Nat → Nat) (w : World) (vlow : List (Value × Value)) (low : List Lv) : Prop := vlow.length = low.length ∧ ∀ i (h : i < low.length) (h' : i < vlow.length), LvC B col w i vlow[i] low[i]
theorem LowC.frame {B : Nat} {C : Nat → Prop} {col col' : Nat → Nat} {w w' : World} {vlow : List (Value × Value)} {low : List Lv} (h : LowC B col w vlow low) (hf : Frm C col col' w w') (hc : ∀ x, C x → x = 1 ∨ x = 2 ∨ 3 + 2 * low.length ≤ x) : LowC B col' w' vlow low :=
  ⟨h.1, fun i hi hi' => (h.2 i hi hi').frame hf (fun e => by have := hc _ e; omega) (fun e => by have := hc _ e; omega) (fun e => by have := hc _ e; omega)⟩
theorem LowC.snoc {B : Nat} {col : Nat → Nat} {w : World} {vlow : List (Value × Value)} {low : List Lv} {p : Value × Value} {lv : Lv} (h : LowC B col w vlow low) (k : LvC B col w low.length p lv) : LowC B col w (vlow ++ [p]) (low ++ [lv]) := by
  refine ⟨by simp [h.1], fun i hi hi' => ?_⟩
  by_cases e : i < low.length
  · rw [List.getElem_append_left e, List.getElem_append_left (by rw [h.1]; exact e)]; exact h.2 i e _
  · (have : i = low.length := by simp at hi; omega); subst this; rw [List.getElem_append_right (Nat.le_refl _), List.getElem_append_right (by rw [h.1]; exact Nat.le_refl _)]
    simpa using k
theorem LowC.unsnoc {B : Nat} {col : Nat → Nat} {w : World} {vlow : List (Value × Value)} {low : List Lv} {lv : Lv} (h : LowC B col w vlow (low ++ [lv])) : ∃ vs p, vlow = vs ++ [p] ∧ LowC B col w vs low ∧ LvC B col w low.length p lv := by
  have hl := h.1; (have hne : vlow ≠ [] := fun e => by rw [e] at hl; simp at hl); obtain ⟨vs, p, rfl⟩ : ∃ vs p, vlow = vs ++ [p] := ⟨vlow.dropLast, vlow.getLast hne, (List.dropLast_concat_getLast hne).symm⟩; (have hvs : vs.length = low.length := by simpa using hl); refine ⟨vs, p, rfl, ⟨hvs, fun i hi hi' => ?_⟩, ?_⟩
  · have := h.2 i (by simp; omega) (by simp; omega); rw [List.getElem_append_left hi, List.getElem_append_left hi'] at this; exact this
  · have := h.2 low.length (by simp) (by simp [hvs]); rw [List.getElem_append_right (Nat.le_refl _), List.getElem_append_right (by rw [hvs]; exact Nat.le_refl _)] at this
    simpa using this
structure StC (B D : Nat) (col : Nat → Nat) (w : World) (s : ByteArray) (k : Nat) (G cap : Nat) (vlow : List (Value × Value)) (vr vp : Value) (low : List Lv) (top : Lv) : Prop where
  rd : RdB w D s k (.slice (some ⟨G, 0, none⟩) (low.length + 1) cap)
  ge : B ≤ D
  cD : col D = 1
  own : w.ownsRow B 108 2 (.slice (some ⟨G, 0, none⟩) (low.length + 1) cap) (low.length + 1) (flat vlow ++ [vr, vp])
  cG : col G = 2
  lo : LowC B col w vlow low
  tp : LvC B col w low.length (vr, vp) top
  new : ∀ b, w.heap.size ≤ b → col b = 0
theorem own_lt {w : World} {B : Nat} {t : TypeId} {sz g n cap m : Nat} {xs : List Value} (h : w.ownsRow B t sz (.slice (some ⟨g, 0, none⟩) n cap) m xs) : B ≤ g ∧ g < w.heap.size ∧ n = m ∧ ∃ cur, w.heap[g]? = some (.cells cur t (0, 0)) := by
  obtain ⟨_, ⟨e, _⟩ | ⟨g', cap', cur, e, hB, hg, _⟩⟩ := h
  · simp at e
  · simp at e; obtain ⟨rfl, rfl, rfl⟩ := e; exact ⟨hB, (Array.getElem?_eq_some_iff.1 hg).1, rfl, cur, hg⟩
theorem own_form {w : World} {B : Nat} {t : TypeId} {sz n : Nat} {v : Value} {xs : List Value} (h : w.ownsRow B t sz v n xs) : ∃ al c, v = .slice al n c := by
  obtain ⟨_, ⟨rfl, rfl⟩ | ⟨g, cap, cur, rfl, _⟩⟩ := h
  · exact ⟨_, _, rfl⟩
  · exact ⟨_, _, rfl⟩
theorem StC.sizes {B D : Nat} {col : Nat → Nat} {w : World} {s : ByteArray} {k G cap : Nat} {vlow : List (Value × Value)} {vr vp : Value} {low : List Lv} {top : Lv} (h : StC B D col w s k G cap vlow vr vp low top) : B ≤ w.heap.size ∧ D < w.heap.size ∧ G < w.heap.size ∧ B ≤ G ∧ D ≠ G ∧ vlow.length = low.length := by
  have h1 := h.rd.lt; have h2 := own_lt h.own; have := h.ge; exact ⟨by omega, h1, h2.2.1, h2.1, fun e => by have h3 := h.cD; rw [e, h.cG] at h3; omega, h.lo.1⟩
theorem StC.cells {B D : Nat} {col : Nat → Nat} {w : World} {s : ByteArray} {k G cap : Nat} {vlow : List (Value × Value)} {vr vp : Value} {low : List Lv} {top : Lv} (h : StC B D col w s k G cap vlow vr vp low top) :
    w.cell? ⟨G, low.length * 2, none⟩ = some vr ∧ w.cell? ⟨G, low.length * 2 + 1, none⟩ = some vp ∧ (∀ o, w.frozen? ⟨G, o, none⟩ = false) := by
  have hc := h.own.cells (g := G) rfl; (have hf : (flat vlow).length = low.length * 2 := by rw [flat_len, h.lo.1]); obtain ⟨_, _, _, cur, hg⟩ := own_lt h.own; refine ⟨?_, ?_, fun o => Lib.frozen_of_heap hg o⟩
  · have := hc (low.length * 2) vr (by rw [List.getElem?_append_right (by omega), hf]; simp); rw [Go.WideShapes.add_plain] at this
    simpa using this
  · have := hc (low.length * 2 + 1) vp (by rw [List.getElem?_append_right (by omega), hf]; simp); rw [Go.WideShapes.add_plain] at this
    simpa using this
theorem StC.below {B D : Nat} {col : Nat → Nat} {w w' : World} {s : ByteArray} {k G cap : Nat} {vlow : List (Value × Value)} {vr vp : Value} {low : List Lv} {top : Lv} (h : StC B D col w s k G cap vlow vr vp low top) (hb : Below w.heap.size w w') : StC B D col w' s k G cap vlow vr vp low top := by
  have hz := h.sizes; exact ⟨h.rd.below hb, h.ge, h.cD, own_go h.own fun g hg hl => hb.block g hl, h.cG, h.lo.frame (Frm.below (C := fun _ => False) hb) (fun _ e => e.elim), h.tp.frame (Frm.below (C := fun _ => False) hb) id id id, fun b hbb => h.new b (Nat.le_trans hb.size hbb)⟩
theorem StC.but {B D : Nat} {col : Nat → Nat} {w w' : World} {s : ByteArray} {k j G cap : Nat} {vlow : List (Value × Value)} {vr vp : Value} {low : List Lv} {top : Lv} (h : StC B D col w s k G cap vlow vr vp low top) (hb : But D w.heap.size w w') (hr : RdB w' D s j (.slice (some ⟨G, 0, none⟩) (low.length + 1) cap)) : StC B D col w' s j G cap vlow vr vp low top := by
  have hz := h.sizes; have hf : Frm (fun x => x = 1) col col w w' := ⟨hb.size, fun b hbb => ⟨rfl, fun hc => hb.block b hbb (fun e => hc (by rw [e]; exact h.cD))⟩⟩; exact ⟨hr, h.ge, h.cD, own_go h.own fun g hg hl => hb.block g hl (fun e => by simp [Value.ownBlock] at hg; omega), h.cG, h.lo.frame hf (fun _ e => .inl e), h.tp.frame hf (by omega) (by omega) (by omega), fun b hbb => h.new b (Nat.le_trans hb.size hbb)⟩
def StepPost (B D : Nat) (col : Nat → Nat) (w : World) (s : ByteArray) (k : Nat) (low : List Lv) (lv : Lv) (e : Ending) (w' : World) : Prop :=
  e = .returned (.tuple #[]) ∧ Below B w w' ∧ ∃ col' G cap vlow vr vp, Frm Wk col col' w w' ∧ StC B D col' w' s k G cap vlow vr vp low lv
def ThrPost (B k : Nat) (w : World) (e : Ending) (w' : World) : Prop := e = thr k ∧ Below B w w'
theorem re_new {B : Nat} {col : Nat → Nat} {n : Nat} {w : World} {v : Value} {r : Rx} (h : ReAt (New n) w v r) (hB : B ≤ n) (hnew : ∀ b, n ≤ b → col b = 0) : ReAt (Tree B col) w v r := h.imp fun b _ hb => ⟨Nat.le_trans hB hb, hnew b hb⟩
theorem new6 {w : World} {B g n cap : Nat} {xs : List Value} {z0 z1 z2 z3 z4 z5 : Value} (hx : xs.length = n * 6) (h : w.ownsRow B 39 6 (.slice (some ⟨g, 0, none⟩) (n + 1) cap) (n + 1) (xs ++ [z0, z1, z2, z3, z4, z5])) :
    (w.cell? ⟨g, n * 6, none⟩ = some z0 ∧ w.cell? ⟨g, n * 6 + 1, none⟩ = some z1 ∧ w.cell? ⟨g, n * 6 + 2, none⟩ = some z2 ∧ w.cell? ⟨g, n * 6 + 3, none⟩ = some z3 ∧ w.cell? ⟨g, n * 6 + 4, none⟩ = some z4 ∧ w.cell? ⟨g, n * 6 + 5, none⟩ = some z5) ∧
    (w.frozen? ⟨g, n * 6, none⟩ = false ∧ w.frozen? ⟨g, n * 6 + 1, none⟩ = false ∧ w.frozen? ⟨g, n * 6 + 2, none⟩ = false ∧ w.frozen? ⟨g, n * 6 + 3, none⟩ = false ∧ w.frozen? ⟨g, n * 6 + 4, none⟩ = false ∧ w.frozen? ⟨g, n * 6 + 5, none⟩ = false) := by
  obtain ⟨_, _, _, cur, hg⟩ := own_lt h; have c := h.cells (g := g) rfl
  have c' : ∀ j u, [z0, z1, z2, z3, z4, z5][j]? = some u → w.cell? ⟨g, n * 6 + j, none⟩ = some u := fun j u hj => by
    have := c (n * 6 + j) u (by rw [List.getElem?_append_right (by omega), hx]; simpa using hj); rw [Go.WideShapes.add_plain] at this
    simpa using this
  exact ⟨⟨c' 0 z0 rfl, c' 1 z1 rfl, c' 2 z2 rfl, c' 3 z3 rfl, c' 4 z4 rfl, c' 5 z5 rfl⟩, Lib.frozen_of_heap hg _, Lib.frozen_of_heap hg _, Lib.frozen_of_heap hg _, Lib.frozen_of_heap hg _, Lib.frozen_of_heap hg _, Lib.frozen_of_heap hg _⟩
theorem grown_far {w wA w1 : World} {col : Nat → Nat} {v : Value} {g G c : Nat} (hA : Below w.heap.size w wA) (hgrow : wA.grownBy w1 v.ownBlock) (hat : v.ownBlock = some g ∨ g = wA.heap.size) (hcol : ∀ g, v.ownBlock = some g → col g = c) (hG : G < w.heap.size) (hcG : col G ≠ c) : w1.heap[G]? = w.heap[G]? ∧ ¬ G = g ∧ ¬ g = G := by
  have h1 := hA.size
  have hne : ¬ G = g := by
    intro e
    rcases hat with hat | hat
    · exact hcG (by rw [e]; exact hcol _ hat)
    · omega
  exact ⟨(hgrow.block G (by omega) (fun e => hcG (hcol G e.symm))).trans (hA.block G hG), hne, fun e => hne e.symm⟩
theorem set_parts {vlow : List (Value × Value)} {n : Nat} (h : vlow.length = n) (vr vp u : Value) : (flat vlow ++ [vr, vp]).set (n * 2 + 1) u = flat vlow ++ [vr, u] := by
  have := flat_len vlow; rw [List.set_append_right _ _ (by omega), show n * 2 + 1 - (flat vlow).length = 1 from by omega]
  rfl
theorem set_rows {vlow : List (Value × Value)} {n : Nat} (h : vlow.length = n) (vr vp u : Value) : (flat vlow ++ [vr, vp]).set (n * 2) u = flat vlow ++ [u, vp] := by
  have := flat_len vlow; rw [List.set_append_right _ _ (by omega), show n * 2 - (flat vlow).length = 0 from by omega]
  rfl
theorem own_levels {w w' : World} {B G n cap : Nat} {xs : List Value} (h : w.ownsRow B 108 2 (.slice (some ⟨G, 0, none⟩) n cap) n xs) (e : w'.heap[G]? = w.heap[G]?) : w'.ownsRow B 108 2 (.slice (some ⟨G, 0, none⟩) n cap) n xs :=
  own_go h fun g hg _ => by simp [Value.ownBlock] at hg; subst hg; exact e
theorem own_row {w w' : World} {B g n cap : Nat} {xs : List Value} (h : w.ownsRow B 39 6 (.slice (some ⟨g, 0, none⟩) n cap) n xs) (e : w'.heap[g]? = w.heap[g]?) : w'.ownsRow B 39 6 (.slice (some ⟨g, 0, none⟩) n cap) n xs :=
  own_go h fun g hg _ => by simp [Value.ownBlock] at hg; subst hg; exact e
theorem StC.added {B D : Nat} {col : Nat → Nat} {w wA w2 w3 : World} {s : ByteArray} {k G cap : Nat} {vlow : List (Value × Value)} {vr vp : Value} {low : List Lv} {top : Lv} (hS : StC B D col w s k G cap vlow vr vp low top) {a : Ex} {xs : List Value} {x0 x1 x2 x3 x4 x5 : Value} {g' cap' : Nat} (hvals : RowVals (Tree B col) w xs (top.parts.map Ex.rx)) (hcol : ∀ g, vp.ownBlock = some g → col g = 4 + 2 * low.length) (hre : ReAt (Tree B col) w (.agg #[x0, x1, x2, x3, x4, x5]) a.rx)
    (hA : Below w.heap.size w wA) (hgrow : wA.grownBy w2 vp.ownBlock) (hat : vp.ownBlock = some g' ∨ g' = wA.heap.size) (hs : w2.heap.size ≤ w3.heap.size) (h3 : ∀ b, b ≠ g' → b ≠ G → w3.heap[b]? = w2.heap[b]?)
    (howR : w3.ownsRow B 39 6 (.slice (some ⟨g', 0, none⟩) (top.parts.length + 1) cap') (top.parts.length + 1) (xs ++ [x0, x1, x2, x3, x4, x5])) (howL : w3.ownsRow B 108 2 (.slice (some ⟨G, 0, none⟩) (low.length + 1) cap) (low.length + 1) (flat vlow ++ [vr, .slice (some ⟨g', 0, none⟩) (top.parts.length + 1) cap'])) :
    StC B D (upd col g' (4 + 2 * low.length)) w3 s k G cap vlow vr (.slice (some ⟨g', 0, none⟩) (top.parts.length + 1) cap') low ⟨top.rows, top.parts ++ [a]⟩ := by
  have hf := grown_frame hA hgrow hat hcol hs h3 hS.cG; obtain ⟨z1, z2, z3, z4, z5, z6⟩ := hS.sizes; refine ⟨hS.rd.of ((hf.2 D z2).2 (by rw [hS.cD]; omega)), hS.ge, by rw [(hf.2 D z2).1]; exact hS.cD, howL, by rw [(hf.2 G z3).1]; exact hS.cG, hS.lo.frame hf (by omega), ⟨hS.tp.1.frame hf (by omega) (by omega), ?_⟩, fun b hb => ?_⟩
  · exact RwC.pushed (by omega) hvals hre hf howR
  · have h1 := (own_lt howR).2.1; rw [upd_far _ (by omega)]; exact hS.new b (Nat.le_trans hf.1 hb)
theorem alloc_drew_below (w : World) (o : Obj) : Below w.heap.size w (w.alloc o).drew := ((Below.refl _ w).alloc (Nat.le_refl _) o).drew
theorem zero6_at (w : World) (c0 c1 c2 c3 c4 c5 : Value) : ∀ j u, [c0, c1, c2, c3, c4, c5][j]? = some u → (w.alloc (.cells #[c0, c1, c2, c3, c4, c5] 39)).drew.cell? ((⟨w.heap.size, 0, none⟩ : Addr).add j) = some u := six_cells w c0 c1 c2 c3 c4 c5
theorem zero6_one : ∀ u ∈ ([.int .u8 0, .int .u64 0, .int .u64 0, .int .u64 0, .int .u64 0, .slice none 0 0] : List Value), u.oneCell' = true := by
  intro u hu; simp at hu; rcases hu with rfl | rfl | rfl <;> rfl
end Go.Proofs.YthgghaaddankoaaGreatDoor
