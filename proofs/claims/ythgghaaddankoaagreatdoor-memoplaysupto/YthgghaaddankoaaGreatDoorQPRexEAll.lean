/- Lemmas of mine, merged: QPRexE, QPRexMay, QPShowM, QPShowN, QPNullO, QPRexR, QPRexF, QPRexG, QPNormM, QPNormN, QPNormO, QPNullA, QPShowBx, QPRexH, QPReadM, QPReadN, QPReadTl, QPReadT, QPReadU, QPReadO, QPReadTop, QPNormE, QPNormP, QPNormF, QPReadSt, QPNormA, QPOrdF, QPNormB, QPRdrG. -/
import Derived.Deep.RegionHeld3
import Derived.Test.YthgghaaddankoaaGreatDoorQPRexBAll
import Derived.Test.YthgghaaddankoaaGreatDoorQPSetMAll
import Derived.Laws.MakeOwn
import Derived.Deep.RegionWith
import Derived.BigRegion
import Derived.Test.YthgghaaddankoaaGreatDoorQPAnyOrdTAll
/- Lemmas of mine. -/
namespace Go.Proofs.YthgghaaddankoaaGreatDoor
open Go.RowKit
def bareB (s : Ws) : Bool := sameW s Ws.nil
set_option maxHeartbeats 1000000 in
theorem isBare_any (s : Ws) (w : World) :
    Calls Tryz.prog 87 #[s.v] w fun e w' => e = .returned (.bool (bareB s)) ∧ Below w.heap.size w w' := by
  by_cases h : sameW s Ws.nil = true
  · have e : bareB s = true := h; rw [e]; obtain rfl := sameW_iff.1 h; have hq := eqW_yes Ws.nil; rw [nil_v] at hq ⊢; clear h e; go_enter Tryz.func87, Tryz.ntmps87; go_wp2; go_ret; exact ⟨rfl, (Below.refl _ w).alloc (Nat.le_refl _) _⟩
  · (have e : bareB s = false := by simpa [bareB] using h); rw [e]; have hne : s ≠ Ws.nil := fun e => h (sameW_iff.2 e); have hq := eqW_no hne; rw [nil_v] at hq; obtain ⟨a, b, c, d⟩ := s; unfold Ws.v at hq ⊢; clear h e hne; go_enter Tryz.func87, Tryz.ntmps87; go_wp2; go_ret; exact ⟨rfl, (Below.refl _ w).alloc (Nat.le_refl _) _⟩
set_option maxHeartbeats 1000000 in
theorem ofX_any (s : Ws) (w : World) (hs : s.Ok) :
    Calls Tryz.prog 80 #[s.v] w (NewPost (ofR s) w) := by
  have KB := Lib.hid fun W => isBare_any s W; have HO := Lib.hid (show ofR s = if bareB s then .node 1 Ws.nil [] else .node 3 s [] from rfl); generalize bareB s = q at *; obtain ⟨a, b, c, d⟩ := s; unfold Ws.v at KB ⊢; go_enter Tryz.func80, Tryz.ntmps80; go_wp2_with fail; refine (KB.out _).mono ?_; rintro e w1 ⟨rfl, hb1⟩; have hbl : w1.heap[w.heap.size + 1]? = some (.cells #[.int .u8 0, .int .u64 0, .int .u64 0, .int .u64 0, .int .u64 0, .slice none 0 0] 39) := (hb1.block _ (by simp)).trans (blk_at _ _ (by simp)); have hbs : w1.heap[w.heap.size]? = some (.cells #[.int .u64 a, .int .u64 b, .int .u64 c, .int .u64 d] 37) := (hb1.block _ (by simp; omega)).trans ((Below.heap_alloc _ _ _ (by simp)).trans (blk_at _ _ rfl)); have hbw : Below w.heap.size w w1 := (((Below.refl _ w).alloc (Nat.le_refl _) _).alloc (by simp) _).trans (hb1.mono (by simp; omega)); obtain ⟨d0, d1, d2, d3, d4, d5, f0, f1, f2, f3, f4, f5⟩ := cellsR hbl; obtain ⟨⟨c0, c1, c2, c3⟩, _⟩ := (show Box w1 w.heap.size ⟨a, b, c, d⟩ from hbs).all; simp only at c0 c1 c2 c3; have HBL := Lib.hid hbl; have HBW := Lib.hid hbw; clear hbl hbs hb1 hbw
  cases q
  · have HP := Lib.hid (putR HBL.out (.int .u8 3) (.int .u64 a) (.int .u64 b) (.int .u64 c) (.int .u64 d) (.slice none 0 0)); have HB := Lib.hid (putB HBW.out (by omega : w.heap.size ≤ w.heap.size + 1) (.int .u8 3) (.int .u64 a) (.int .u64 b) (.int .u64 c) (.int .u64 d) (.slice none 0 0)); unfold putW at HP HB; go_wp2; refine ret_re HP.out Tryz.results80 rfl rfl ⟨_, rfl, ?_, HB.out⟩; rw [HO.out]; exact bareAt _ _ 3 ⟨a, b, c, d⟩ (by decide) hs
  · have HP := Lib.hid (putR HBL.out (.int .u8 1) (.int .u64 0) (.int .u64 0) (.int .u64 0) (.int .u64 0) (.slice none 0 0)); have HB := Lib.hid (putB HBW.out (by omega : w.heap.size ≤ w.heap.size + 1) (.int .u8 1) (.int .u64 0) (.int .u64 0) (.int .u64 0) (.int .u64 0) (.slice none 0 0)); unfold putW at HP HB; go_wp2; refine ret_re HP.out Tryz.results80 rfl rfl ⟨_, rfl, ?_, HB.out⟩; rw [HO.out]; exact bareAt _ _ 1 Ws.nil (by decide) Ws.nil_ok
def nodeGood (k n : Nat) (q : Bool) : Bool :=
  if k = 1 ∨ k = 2 then decide (n = 0) && q else if k = 3 then decide (n = 0) && !q else if k = 4 ∨ k = 5 then decide (n = 2) && q else if k = 6 then decide (n = 1) && q else false
def goodN : Rx → Bool
  | .node k s ks => nodeGood k ks.length (bareB s)
def ReCells (x : World) (g : Nat) (k a b c d : Nat) (sl : Value) : Prop := x.cell? ⟨g, 0, none⟩ = some (.int .u8 k) ∧ x.cell? ⟨g, 1, none⟩ = some (.int .u64 a) ∧ x.cell? ⟨g, 2, none⟩ = some (.int .u64 b) ∧ x.cell? ⟨g, 3, none⟩ = some (.int .u64 c) ∧ x.cell? ⟨g, 4, none⟩ = some (.int .u64 d) ∧ x.cell? ⟨g, 5, none⟩ = some sl
theorem reCells_of {x : World} {g k a b c d : Nat} {sl : Value} (h : x.heap[g]? = some (.cells #[.int .u8 k, .int .u64 a, .int .u64 b, .int .u64 c, .int .u64 d, sl] 39)) : ReCells x g k a b c d sl := by
  obtain ⟨d0, d1, d2, d3, d4, d5, _⟩ := cellsR h; exact ⟨d0, d1, d2, d3, d4, d5⟩
theorem ReCells.below {x y : World} {B g k a b c d : Nat} {sl : Value} (h : ReCells x g k a b c d sl) (hb : Below B x y) (hg : g < B) : ReCells y g k a b c d sl := by
  have e := fun o => hb.cell (p := ⟨g, o, none⟩) hg; obtain ⟨d0, d1, d2, d3, d4, d5⟩ := h; exact ⟨by rw [e]; exact d0, by rw [e]; exact d1, by rw [e]; exact d2, by rw [e]; exact d3, by rw [e]; exact d4, by rw [e]; exact d5⟩
theorem keepR {W x y : World} {g k a b c d : Nat} {sl : Value} (h : ReCells W g k a b c d sl) (hg : g < W.heap.size) (h1 : Below W.heap.size W x) (h2 : Below x.heap.size x y) :
    (y.cell? ⟨g, 0, none⟩ = some (.int .u8 k) ∧ y.cell? ⟨g, 1, none⟩ = some (.int .u64 a) ∧ y.cell? ⟨g, 2, none⟩ = some (.int .u64 b) ∧ y.cell? ⟨g, 3, none⟩ = some (.int .u64 c) ∧ y.cell? ⟨g, 4, none⟩ = some (.int .u64 d) ∧ y.cell? ⟨g, 5, none⟩ = some sl) ∧ Below W.heap.size W y := by
  have hb := h1.trans (h2.mono h1.size); exact ⟨h.below hb hg, hb⟩
set_option maxHeartbeats 4000000 in
theorem nodeMay_any (k : Nat) (s : Ws) (n : Nat) (al : Option Addr) (cap : Nat) (w : World) (hk : k < 256) (hn : n < 2199023255552) :
    Calls Tryz.prog 55 #[.agg #[.int .u8 k, .int .u64 s.a, .int .u64 s.b, .int .u64 s.c, .int .u64 s.d, .slice al n cap]] w fun e w' => e = .returned (.bool (nodeGood k n (bareB s))) ∧ Below w.heap.size w w' := by
  have KB := Lib.hid fun W => isBare_any s W; generalize bareB s = q at *; obtain ⟨a, b, c, d⟩ := s; unfold Ws.v at KB; simp only at KB ⊢; go_enter Tryz.func55, Tryz.ntmps55; go_wp2_with fail; have h0 := reCells_of (blk_new w (.cells #[.int .u8 k, .int .u64 a, .int .u64 b, .int .u64 c, .int .u64 d, .slice al n cap] 39)); have hb0 := (Below.refl _ w).alloc (Nat.le_refl _) (.cells #[.int .u8 k, .int .u64 a, .int .u64 b, .int .u64 c, .int .u64 d, .slice al n cap] 39); (have hg : w.heap.size < (w.alloc (.cells #[.int .u8 k, .int .u64 a, .int .u64 b, .int .u64 c, .int .u64 d, .slice al n cap] 39)).heap.size := by simp); generalize hW : w.alloc (.cells #[.int .u8 k, .int .u64 a, .int .u64 b, .int .u64 c, .int .u64 d, .slice al n cap] 39) = W at *; clear hW; have H0 := Lib.hid h0; clear h0
  go_region_held3 (fun x => (x.cell? ⟨w.heap.size, 0, none⟩ = some (.int .u8 k) ∧ x.cell? ⟨w.heap.size, 1, none⟩ = some (.int .u64 a) ∧ x.cell? ⟨w.heap.size, 2, none⟩ = some (.int .u64 b) ∧ x.cell? ⟨w.heap.size, 3, none⟩ = some (.int .u64 c) ∧ x.cell? ⟨w.heap.size, 4, none⟩ = some (.int .u64 d) ∧ x.cell? ⟨w.heap.size, 5, none⟩ = some (.slice al n cap)) ∧ Below W.heap.size W x)
    (first | assumption | exact ⟨H0.out, (Below.refl _ _).drew⟩ | exact keepR H0.out hg (And.right (by assumption)) (by assumption))
    (first
      | (go_at_call 87; (with_reducible refine (KB.out _).mono ?_); rintro e w' ⟨rfl, hbb⟩))
  all_goals
    obtain ⟨⟨c0, c1, c2, c3, c4, c5⟩, hbx⟩ := ‹_ ∧ Below W.heap.size W _›; have hbw := hb0.trans (hbx.mono (Nat.le_of_lt hg)); have HBW := Lib.hid hbw; clear hbx hbw
    by_cases k1 : k = 1
    · subst k1
      by_cases hn0 : n = 0
      · subst hn0; go_wp2; go_ret; exact ⟨by simp [nodeGood], HBW.out⟩
      · (have e0 : ((n : Int) == 0) = false := by simp; omega); go_wp2; go_ret; exact ⟨by simp [nodeGood, hn0], HBW.out⟩
    (have f1 : ((k : Int) == 1) = false := by simp; omega)
    by_cases k2 : k = 2
    · subst k2
      by_cases hn0 : n = 0
      · subst hn0; go_wp2; go_ret; exact ⟨by simp [nodeGood], HBW.out⟩
      · (have e0 : ((n : Int) == 0) = false := by simp; omega); go_wp2; go_ret; exact ⟨by simp [nodeGood, hn0], HBW.out⟩
    (have f2 : ((k : Int) == 2) = false := by simp; omega)
    by_cases k3 : k = 3
    · subst k3
      by_cases hn0 : n = 0
      · subst hn0; go_wp2; go_ret; exact ⟨by simp [nodeGood], HBW.out⟩
      · (have e0 : ((n : Int) == 0) = false := by simp; omega); go_wp2; go_ret; exact ⟨by simp [nodeGood, hn0], HBW.out⟩
    (have f3 : ((k : Int) == 3) = false := by simp; omega)
    by_cases k4 : k = 4
    · subst k4
      by_cases hn0 : n = 2
      · subst hn0; go_wp2; go_ret; exact ⟨by simp [nodeGood], HBW.out⟩
      · (have e0 : ((n : Int) == 2) = false := by simp; omega); go_wp2; go_ret; exact ⟨by simp [nodeGood, hn0], HBW.out⟩
    (have f4 : ((k : Int) == 4) = false := by simp; omega)
    by_cases k5 : k = 5
    · subst k5
      by_cases hn0 : n = 2
      · subst hn0; go_wp2; go_ret; exact ⟨by simp [nodeGood], HBW.out⟩
      · (have e0 : ((n : Int) == 2) = false := by simp; omega); go_wp2; go_ret; exact ⟨by simp [nodeGood, hn0], HBW.out⟩
    (have f5 : ((k : Int) == 5) = false := by simp; omega)
    by_cases k6 : k = 6
    · subst k6
      by_cases hn0 : n = 1
      · subst hn0; go_wp2; go_ret; exact ⟨by simp [nodeGood], HBW.out⟩
      · (have e0 : ((n : Int) == 1) = false := by simp; omega); go_wp2; go_ret; exact ⟨by simp [nodeGood, hn0], HBW.out⟩
    (have f6 : ((k : Int) == 6) = false := by simp; omega); have HG := Lib.hid (show nodeGood k n q = false from by simp [nodeGood, k1, k2, k3, k4, k5, k6]); clear k1 k2 k3 k4 k5 k6; go_wp2; go_ret; exact ⟨by rw [HG.out]; rfl, HBW.out⟩
end Go.Proofs.YthgghaaddankoaaGreatDoor
/- Lemmas of mine. -/
namespace Go.Proofs.YthgghaaddankoaaGreatDoor
mutual
def goodR : Rx → Bool
  | .node k s ks => nodeGood k ks.length (bareB s) && goodRs ks
def goodRs : List Rx → Bool
  | [] => true
  | r :: rs => goodR r && goodRs rs
end
theorem goodRs_append (a b : List Rx) : goodRs (a ++ b) = (goodRs a && goodRs b) := by
  induction a with
  | nil => simp [goodRs]
  | cons x t ih => simp [goodRs, ih, Bool.and_assoc]
def mayN (r : Rx) (n : Nat) : Bool := goodR r && decide (r.size ≤ n)
def mayNs (l : List Rx) (n : Nat) : Bool := goodRs l && decide (Rx.sizes l ≤ n)
def mayR (r : Rx) : Bool := mayN r 2000
theorem mayNs_step {l : List Rx} {n i : Nat} (h : i < l.length) (ht : mayNs (l.take i) n = true) (hk : mayN l[i] (n - Rx.sizes (l.take i)) = true) : mayNs (l.take (i + 1)) n = true := by
  simp [mayNs, mayN] at *; rw [sizes_take l i h, List.take_succ_eq_append_getElem h, goodRs_append]; simp [goodRs, ht, hk]; omega
theorem mayNs_stop {l : List Rx} {n i : Nat} (h : i < l.length) (ht : mayNs (l.take i) n = true) (hk : mayN l[i] (n - Rx.sizes (l.take i)) = false) : mayNs l n = false := by
  have e := List.take_append_drop (i + 1) l; have hs := sizes_append (l.take (i + 1)) (l.drop (i + 1)); have hg := goodRs_append (l.take (i + 1)) (l.drop (i + 1)); rw [e] at hs hg; rw [sizes_take l i h] at hs; rw [List.take_succ_eq_append_getElem h, goodRs_append] at hg; simp only [goodRs, Bool.and_true] at hg; simp only [mayNs, mayN, Bool.and_eq_true, Bool.and_eq_false_iff, decide_eq_true_eq, decide_eq_false_iff_not] at *
  rcases hk with hk | hk
  · left; rw [hg, hk]; simp
  · right; omega
end Go.Proofs.YthgghaaddankoaaGreatDoor
/- Lemmas of mine. -/
namespace Go.Proofs.YthgghaaddankoaaGreatDoor
inductive Ex where
  | empty
  | eps
  | cls (s : Ws)
  | seq (a b : Ex)
  | alt (a b : Ex)
  | star (a : Ex)
def Ex.rx : Ex → Rx
  | .empty => .node 1 Ws.nil []
  | .eps => .node 2 Ws.nil []
  | .cls s => .node 3 s []
  | .seq a b => .node 4 Ws.nil [a.rx, b.rx]
  | .alt a b => .node 5 Ws.nil [a.rx, b.rx]
  | .star a => .node 6 Ws.nil [a.rx]
def Ex.Wf : Ex → Prop
  | .empty => True
  | .eps => True
  | .cls s => s.Ok ∧ s ≠ Ws.nil
  | .seq a b => a.Wf ∧ b.Wf
  | .alt a b => a.Wf ∧ b.Wf
  | .star a => a.Wf
def Ex.size : Ex → Nat
  | .empty => 1
  | .eps => 1
  | .cls _ => 1
  | .seq a b => 1 + a.size + b.size
  | .alt a b => 1 + a.size + b.size
  | .star a => 1 + a.size
theorem Ex.size_rx : ∀ e : Ex, e.rx.size = e.size
  | .empty => by simp [Ex.rx, Rx.size, Rx.sizes, Ex.size]
  | .eps => by simp [Ex.rx, Rx.size, Rx.sizes, Ex.size]
  | .cls _ => by simp [Ex.rx, Rx.size, Rx.sizes, Ex.size]
  | .seq a b => by simp [Ex.rx, Rx.size, Rx.sizes, Ex.size, a.size_rx, b.size_rx]; omega
  | .alt a b => by simp [Ex.rx, Rx.size, Rx.sizes, Ex.size, a.size_rx, b.size_rx]; omega
  | .star a => by simp [Ex.rx, Rx.size, Rx.sizes, Ex.size, a.size_rx]
theorem Ex.rx_inj : ∀ e f : Ex, e.rx = f.rx → e = f
  | .empty, f, h => by cases f <;> simp_all [Ex.rx]
  | .eps, f, h => by cases f <;> simp_all [Ex.rx]
  | .cls _, f, h => by cases f <;> simp_all [Ex.rx]
  | .seq a b, f, h => by
    cases f with
    | seq c d =>
      simp [Ex.rx] at h; rw [a.rx_inj c h.1, b.rx_inj d h.2]
    | _ => simp [Ex.rx] at h
  | .alt a b, f, h => by
    cases f with
    | alt c d =>
      simp [Ex.rx] at h; rw [a.rx_inj c h.1, b.rx_inj d h.2]
    | _ => simp [Ex.rx] at h
  | .star a, f, h => by
    cases f with
    | star c =>
      simp [Ex.rx] at h; rw [a.rx_inj c h]
    | _ => simp [Ex.rx] at h
def Rx.SetsOk : Rx → Prop
  | .node _ s ks => s.Ok ∧ ∀ k ∈ ks, k.SetsOk
theorem bare_nil {s : Ws} (h : bareB s = true) : s = Ws.nil := by
  unfold bareB at h; exact sameW_iff.1 h
theorem goodRs_mem {l : List Rx} (h : goodRs l = true) : ∀ r ∈ l, goodR r = true := by
  induction l with
  | nil => intro r hr; cases hr
  | cons x t ih =>
    simp only [goodRs, Bool.and_eq_true] at h; intro r hr
    rcases List.mem_cons.1 hr with rfl | hr
    · exact h.1
    · exact ih h.2 r hr
theorem ex_of_good (N : Nat) : ∀ r : Rx, r.size ≤ N → goodR r = true → r.SetsOk → ∃ e : Ex, e.rx = r ∧ e.Wf := by
  induction N with
  | zero => intro r h; have := r.size_pos; omega
  | succ N ih =>
    rintro ⟨k, s, ks⟩ hN hg hs; (have hN' : Rx.sizes ks ≤ N := by simp [Rx.size] at hN; omega); unfold goodR at hg; unfold Rx.SetsOk at hs; rw [Bool.and_eq_true] at hg; obtain ⟨hn, hks⟩ := hg
    have sub : ∀ r ∈ ks, ∃ e : Ex, e.rx = r ∧ e.Wf := fun r hr => by
      obtain ⟨i, hi, rfl⟩ := List.getElem_of_mem hr; exact ih _ (Nat.le_trans (size_kid hi) hN') (goodRs_mem hks _ hr) (hs.2 _ hr)
    unfold nodeGood at hn
    by_cases h1 : k = 1 ∨ k = 2
    · rw [if_pos h1] at hn; simp only [Bool.and_eq_true, decide_eq_true_eq] at hn; obtain ⟨h2, h3⟩ := hn; have hk := List.eq_nil_of_length_eq_zero h2; have hb := bare_nil h3; subst hk hb
      rcases h1 with rfl | rfl
      · exact ⟨.empty, rfl, trivial⟩
      · exact ⟨.eps, rfl, trivial⟩
    · rw [if_neg h1] at hn
      by_cases h2 : k = 3
      · rw [if_pos h2] at hn; simp only [Bool.and_eq_true, decide_eq_true_eq, Bool.not_eq_true'] at hn; have hk := List.eq_nil_of_length_eq_zero hn.1; subst hk h2; refine ⟨.cls s, rfl, hs.1, fun e => ?_⟩; have := hn.2; rw [e] at this; exact absurd this (by decide)
      · rw [if_neg h2] at hn
        by_cases h3 : k = 4 ∨ k = 5
        · rw [if_pos h3] at hn; simp only [Bool.and_eq_true, decide_eq_true_eq] at hn; have hb := bare_nil hn.2; subst hb
          match ks, hn.1 with
          | [a, b], _ =>
            obtain ⟨ea, rfl, wa⟩ := sub a (by simp); obtain ⟨eb, rfl, wb⟩ := sub b (by simp)
            rcases h3 with rfl | rfl
            · exact ⟨.seq ea eb, rfl, wa, wb⟩
            · exact ⟨.alt ea eb, rfl, wa, wb⟩
        · rw [if_neg h3] at hn
          by_cases h4 : k = 6
          · rw [if_pos h4] at hn; simp only [Bool.and_eq_true, decide_eq_true_eq] at hn; have hb := bare_nil hn.2; subst hb h4
            match ks, hn.1 with
            | [a], _ =>
              obtain ⟨ea, rfl, wa⟩ := sub a (by simp); exact ⟨.star ea, rfl, wa⟩
          · rw [if_neg h4] at hn; exact absurd hn (by simp)
theorem good_ex : ∀ e : Ex, e.Wf → goodR e.rx = true
  | .empty, _ => by simp [Ex.rx, goodR, goodRs, nodeGood]; decide
  | .eps, _ => by simp [Ex.rx, goodR, goodRs, nodeGood]; decide
  | .cls s, h => by
    have : bareB s = false := by
      cases hb : bareB s with
      | false => rfl
      | true => exact absurd (bare_nil hb) h.2
    simp [Ex.rx, goodR, goodRs, nodeGood, this]
  | .seq a b, h => by
    (have : bareB Ws.nil = true := by decide); simp [Ex.rx, goodR, goodRs, nodeGood, this, good_ex a h.1, good_ex b h.2]
  | .alt a b, h => by
    (have : bareB Ws.nil = true := by decide); simp [Ex.rx, goodR, goodRs, nodeGood, this, good_ex a h.1, good_ex b h.2]
  | .star a, h => by
    (have : bareB Ws.nil = true := by decide); simp [Ex.rx, goodR, goodRs, nodeGood, this, good_ex a h]
end Go.Proofs.YthgghaaddankoaaGreatDoor
/- Lemmas of mine. -/
namespace Go.Proofs.YthgghaaddankoaaGreatDoor
def roundL (s : List UInt8) (b : Bool) : List UInt8 := if b = true then 40 :: (s ++ [41]) else s
def Ex.isAlt : Ex → Bool
  | .alt _ _ => true
  | _ => false
def Ex.isSeq : Ex → Bool
  | .seq _ _ => true
  | _ => false
def Ex.text : Ex → List UInt8
  | .empty => [91, 93]
  | .eps => [40, 41]
  | .cls s => textW s
  | .seq a b => roundL a.text (a.isSeq || a.isAlt) ++ roundL b.text b.isAlt
  | .alt a b => roundL a.text a.isAlt ++ 124 :: b.text
  | .star a => roundL a.text (a.isSeq || a.isAlt) ++ [42]
def Ex.item (e : Ex) : List UInt8 := roundL e.text (e.isSeq || e.isAlt)
def Ex.part (e : Ex) : List UInt8 := roundL e.text e.isAlt
theorem text_seq (a b : Ex) : (Ex.seq a b).text = a.item ++ b.part := rfl
theorem text_alt (a b : Ex) : (Ex.alt a b).text = a.part ++ 124 :: b.text := rfl
theorem text_star (a : Ex) : (Ex.star a).text = a.item ++ [42] := rfl
theorem item_star (a : Ex) : (Ex.star a).item = a.item ++ [42] := rfl
theorem part_seq (a b : Ex) : (Ex.seq a b).part = a.item ++ b.part := rfl
theorem part_item {e : Ex} (h : e.isSeq = false) : e.part = e.item := by unfold Ex.part Ex.item; rw [h]; rfl
theorem part_text {e : Ex} (h : e.isAlt = false) : e.part = e.text := by unfold Ex.part roundL; rw [h]; rfl
def Starts (c : UInt8) : Prop := c ≠ 41 ∧ c ≠ 42 ∧ c ≠ 124 ∧ c ≠ 93
theorem sign_start : ∀ n : Fin 256, ∃ c t, signL n.1 = c :: t ∧ c ≠ 41 ∧ c ≠ 42 ∧ c ≠ 124 ∧ c ≠ 93 ∧ c ≠ 40 ∧ c ≠ 91 ∧ c ≠ 46 := by
  intro n; (have h : ∀ n : Fin 256, (signL n.1).headD 0 ≠ 41 ∧ (signL n.1).headD 0 ≠ 42 ∧ (signL n.1).headD 0 ≠ 124 ∧ (signL n.1).headD 0 ≠ 93 ∧ (signL n.1).headD 0 ≠ 40 ∧ (signL n.1).headD 0 ≠ 91 ∧ (signL n.1).headD 0 ≠ 46 := by decide +kernel); have h2 := h n; have hl := (signL_length n.1).2
  match hs : signL n.1, hl with
  | c :: t, _ =>
    rw [hs] at h2; exact ⟨c, t, rfl, h2⟩
theorem sign_no93 : ∀ n : Fin 256, ∀ c ∈ signL n.1, c ≠ 93 := by decide +kernel
theorem textOf_no93 : ∀ (k : Nat) (l : List Nat), l.length ≤ k → (∀ x ∈ l, x < 256) → ∀ c ∈ textOf l, c ≠ 93
  | 0, l, h, _ => by
    have : l = [] := List.eq_nil_of_length_eq_zero (by omega); subst this; simp [textOf_nil]
  | k + 1, [], _, _ => by simp [textOf_nil]
  | k + 1, x :: l, h, hl => by
    have hx := hl x (List.mem_cons_self ..); simp at h; have hrest : ∀ y ∈ l.drop (runFrom x l), y < 256 := fun y hy => hl y (List.mem_cons_of_mem _ (List.mem_of_mem_drop hy)); have ih := textOf_no93 k (l.drop (runFrom x l)) (by simp; omega) hrest; have htk := runFrom_take x l; intro c hc; rw [textOf_cons] at hc
    rcases List.mem_append.1 hc with hc | hc
    · have hin : ∀ j, 1 ≤ j → j ≤ runFrom x l → x + j < 256 := fun j h1 h2 => by
        (have : x + j ∈ l.take (runFrom x l) := by rw [htk]; simp [List.mem_range'_1]; omega); exact hl _ (List.mem_cons_of_mem _ (List.mem_of_mem_take this))
      unfold segL at hc
      split at hc
      · rename_i h3
        have hm := hin (runFrom x l) (by omega) (Nat.le_refl _)
        rcases List.mem_append.1 hc with hc | hc
        · exact sign_no93 ⟨x, hx⟩ c hc
        · rcases List.mem_cons.1 hc with rfl | hc
          · decide
          · exact sign_no93 ⟨x + (1 + runFrom x l) - 1, by omega⟩ c hc
      · split at hc
        · rename_i h2
          have hm := hin 1 (Nat.le_refl _) (by omega)
          rcases List.mem_append.1 hc with hc | hc
          · exact sign_no93 ⟨x, hx⟩ c hc
          · exact sign_no93 ⟨x + 1, hm⟩ c hc
        · exact sign_no93 ⟨x, hx⟩ c hc
    · exact ih c hc
theorem split93 : ∀ (a b x y : List UInt8), (∀ c ∈ a, c ≠ 93) → (∀ c ∈ b, c ≠ 93) → a ++ 93 :: x = b ++ 93 :: y → a = b ∧ x = y
  | [], [], x, y, _, _, h => by simpa using h
  | [], c :: b, x, y, _, hb, h => by
    simp at h; exact absurd h.1.symm (hb c (by simp))
  | c :: a, [], x, y, ha, _, h => by
    simp at h; exact absurd h.1 (ha c (by simp))
  | c :: a, d :: b, x, y, ha, hb, h => by
    simp at h; obtain ⟨rfl, h⟩ := h; have := split93 a b x y (fun e he => ha e (List.mem_cons_of_mem _ he)) (fun e he => hb e (List.mem_cons_of_mem _ he)) h; exact ⟨by rw [this.1], this.2⟩
theorem bytes_ne {s : Ws} (hs : s.Ok) (h : s ≠ Ws.nil) : bytesN s ≠ [] := fun e => h (bytesN_inj hs Ws.nil_ok (by rw [e]; decide))
theorem textW_cases {s : Ws} (hs : s.Ok) (h : s ≠ Ws.nil) : textW s = [46] ∨ (∃ n : Fin 256, textW s = signL n.1) ∨ ∃ a, textW s = 91 :: (a ++ [93]) ∧ (∀ c ∈ a, c ≠ 93) ∧ a ≠ [] := by
  unfold textW
  split
  · exact .inl rfl
  · split
    · rename_i h1
      obtain ⟨x, hx⟩ := List.length_eq_one_iff.1 h1; have hlt : x < 256 := bytesN_lt s x (by rw [hx]; simp); exact .inr (.inl ⟨⟨x, hlt⟩, by rw [hx]; rfl⟩)
    · refine .inr (.inr ⟨_, rfl, textOf_no93 _ _ (Nat.le_refl _) (bytesN_lt s), ?_⟩); have hne := bytes_ne hs h
      match hb : bytesN s, hne with
      | x :: l, _ =>
        rw [textOf_cons]; intro e; have h1 := (List.append_eq_nil_iff.1 e).1; have h2 := signL_length x; unfold segL at h1
        split at h1
        · rw [(List.append_eq_nil_iff.1 h1).1] at h2; simp at h2
        · split at h1
          · rw [(List.append_eq_nil_iff.1 h1).1] at h2; simp at h2
          · rw [h1] at h2; simp at h2
theorem textW_pre {s t : Ws} (hs : s.Ok) (ht : t.Ok) (hs0 : s ≠ Ws.nil) (ht0 : t ≠ Ws.nil) {x y : List UInt8} (h : textW s ++ x = textW t ++ y) : s = t ∧ x = y := by
  have key : textW s = textW t ∧ x = y := by
    rcases textW_cases hs hs0 with e1 | ⟨n, e1⟩ | ⟨a, e1, ha, _⟩ <;> rcases textW_cases ht ht0 with e2 | ⟨m, e2⟩ | ⟨b, e2, hb, _⟩
    · rw [e1, e2] at h ⊢; exact ⟨rfl, by simpa using h⟩
    · obtain ⟨c, u, hc, _, _, _, _, _, _, h46⟩ := sign_start m; rw [e1, e2, hc] at h; simp at h; exact absurd h.1.symm h46
    · rw [e1, e2] at h; simp at h
    · obtain ⟨c, u, hc, _, _, _, _, _, _, h46⟩ := sign_start n; rw [e1, e2, hc] at h; simp at h; exact absurd h.1 h46
    · rw [e1, e2] at h ⊢; have r1 := readSign_sign n.1 n.2 x; have r2 := readSign_sign m.1 m.2 y; rw [h, r2] at r1; simp at r1; rw [r1.1, r1.2]; exact ⟨rfl, rfl⟩
    · obtain ⟨c, u, hc, _, _, _, _, _, h91, _⟩ := sign_start n; rw [e1, e2, hc] at h; simp at h; exact absurd h.1 h91
    · rw [e1, e2] at h; simp at h
    · obtain ⟨c, u, hc, _, _, _, _, _, h91, _⟩ := sign_start m; rw [e1, e2, hc] at h; simp at h; exact absurd h.1.symm h91
    · rw [e1, e2] at h ⊢; simp at h; have := split93 a b x y ha hb h; rw [this.1, this.2]; exact ⟨rfl, rfl⟩
  exact ⟨textW_inj hs ht key.1, key.2⟩
theorem textW_start {s : Ws} (hs : s.Ok) (h : s ≠ Ws.nil) : ∃ c t, textW s = c :: t ∧ Starts c ∧ c ≠ 40 := by
  rcases textW_cases hs h with e | ⟨n, e⟩ | ⟨a, e, _, _⟩
  · exact ⟨_, _, e, by unfold Starts; decide, by decide⟩
  · obtain ⟨c, u, hc, h1, h2, h3, h4, h5, _⟩ := sign_start n; exact ⟨c, u, by rw [e, hc], ⟨h1, h2, h3, h4⟩, h5⟩
  · exact ⟨_, _, e, by unfold Starts; decide, by decide⟩
theorem textW_not_empty {s : Ws} (hs : s.Ok) (h : s ≠ Ws.nil) (x y : List UInt8) : textW s ++ x ≠ 91 :: 93 :: y := by
  intro e
  rcases textW_cases hs h with e1 | ⟨n, e1⟩ | ⟨a, e1, ha, hne⟩
  · rw [e1] at e; simp at e
  · obtain ⟨c, u, hc, _, _, _, _, _, h91, _⟩ := sign_start n; rw [e1, hc] at e; simp at e; exact h91 e.1
  · rw [e1] at e
    match a, hne with
    | c :: a, _ =>
      simp at e; exact ha c (by simp) e.1
theorem start_round {s : List UInt8} {b : Bool} (h : ∃ c t, s = c :: t ∧ Starts c) : ∃ c t, roundL s b = c :: t ∧ Starts c := by
  unfold roundL
  split
  · exact ⟨_, _, rfl, by unfold Starts; decide⟩
  · exact h
theorem start_app {s x : List UInt8} (h : ∃ c t, s = c :: t ∧ Starts c) : ∃ c t, s ++ x = c :: t ∧ Starts c := by
  obtain ⟨c, t, rfl, hc⟩ := h; exact ⟨c, t ++ x, rfl, hc⟩
theorem text_start : ∀ e : Ex, e.Wf → ∃ c t, e.text = c :: t ∧ Starts c
  | .empty, _ => ⟨_, _, rfl, by unfold Starts; decide⟩
  | .eps, _ => ⟨_, _, rfl, by unfold Starts; decide⟩
  | .cls s, h => by
    obtain ⟨c, t, e, hc, _⟩ := textW_start h.1 h.2; exact ⟨c, t, e, hc⟩
  | .seq a b, h => start_app (start_round (text_start a h.1))
  | .alt a b, h => start_app (start_round (text_start a h.1))
  | .star a, h => start_app (start_round (text_start a h))
theorem part_start {e : Ex} (h : e.Wf) : ∃ c t, e.part = c :: t ∧ Starts c := start_round (text_start e h)
def Term0 (x : List UInt8) : Prop := x = [] ∨ ∃ t, x = 41 :: t
def Term1 (x : List UInt8) : Prop := x = [] ∨ (∃ t, x = 41 :: t) ∨ ∃ t, x = 124 :: t
def NoStar (x : List UInt8) : Prop := ∀ t, x ≠ 42 :: t
theorem Term1.noStar {x : List UInt8} (h : Term1 x) : NoStar x := by
  rintro t rfl
  rcases h with h | ⟨u, h⟩ | ⟨u, h⟩ <;> simp at h
theorem noStar_part {e : Ex} (h : e.Wf) (x : List UInt8) : NoStar (e.part ++ x) := by
  obtain ⟨c, t, e1, hc⟩ := start_app (x := x) (part_start h); rintro u hu; rw [e1] at hu; simp at hu; exact hc.2.1 hu.1
theorem term_not_part {e : Ex} (h : e.Wf) {x y : List UInt8} (hy : Term1 y) (he : e.part ++ x = y) : False := by
  obtain ⟨c, t, e1, hc⟩ := start_app (x := x) (part_start h); rw [e1] at he
  rcases hy with hy | ⟨u, hy⟩ | ⟨u, hy⟩
  · rw [hy] at he; simp at he
  · rw [hy] at he; simp at he; exact hc.1 he.1
  · rw [hy] at he; simp at he; exact hc.2.2.1 he.1
def TP (N : Nat) : Prop := ∀ e f : Ex, ∀ x y : List UInt8, e.size ≤ N → e.Wf → f.Wf → Term0 x → Term0 y → e.text ++ x = f.text ++ y → e = f ∧ x = y
def Ex.base : Ex → Ex
  | .star a => a.base
  | e => e
def Ex.stars : Ex → Nat
  | .star a => a.stars + 1
  | _ => 0
def Ex.isStar : Ex → Bool
  | .star _ => true
  | _ => false
theorem base_star : ∀ e : Ex, e.base.isStar = false
  | .empty => rfl
  | .eps => rfl
  | .cls _ => rfl
  | .seq _ _ => rfl
  | .alt _ _ => rfl
  | .star a => base_star a
theorem item_base : ∀ e : Ex, e.item = e.base.item ++ List.replicate e.stars 42
  | .empty => by simp [Ex.base, Ex.stars]
  | .eps => by simp [Ex.base, Ex.stars]
  | .cls _ => by simp [Ex.base, Ex.stars]
  | .seq _ _ => by simp [Ex.base, Ex.stars]
  | .alt _ _ => by simp [Ex.base, Ex.stars]
  | .star a => by
    rw [item_star, item_base a, Ex.base, Ex.stars, List.append_assoc, List.replicate_succ']
theorem base_wf : ∀ e : Ex, e.Wf → e.base.Wf
  | .empty, h => h
  | .eps, h => h
  | .cls _, h => h
  | .seq _ _, h => h
  | .alt _ _, h => h
  | .star a, h => base_wf a h
theorem base_size : ∀ e : Ex, e.base.size + e.stars ≤ e.size
  | .empty => by simp [Ex.base, Ex.stars]
  | .eps => by simp [Ex.base, Ex.stars]
  | .cls _ => by simp [Ex.base, Ex.stars]
  | .seq _ _ => by simp [Ex.base, Ex.stars]
  | .alt _ _ => by simp [Ex.base, Ex.stars]
  | .star a => by
    have := base_size a; simp [Ex.base, Ex.stars, Ex.size]; omega
theorem base_inj : ∀ e f : Ex, e.base = f.base → e.stars = f.stars → e = f
  | .star a, .star b, h1, h2 => by
    have := base_inj a b h1 (by simpa [Ex.stars] using h2); rw [this]
  | .star a, .empty, _, h2 => by simp [Ex.stars] at h2
  | .star a, .eps, _, h2 => by simp [Ex.stars] at h2
  | .star a, .cls _, _, h2 => by simp [Ex.stars] at h2
  | .star a, .seq _ _, _, h2 => by simp [Ex.stars] at h2
  | .star a, .alt _ _, _, h2 => by simp [Ex.stars] at h2
  | .empty, f, h1, h2 => by cases f <;> simp_all [Ex.base, Ex.stars]
  | .eps, f, h1, h2 => by cases f <;> simp_all [Ex.base, Ex.stars]
  | .cls _, f, h1, h2 => by cases f <;> simp_all [Ex.base, Ex.stars]
  | .seq _ _, f, h1, h2 => by cases f <;> simp_all [Ex.base, Ex.stars]
  | .alt _ _, f, h1, h2 => by cases f <;> simp_all [Ex.base, Ex.stars]
theorem stars_pre : ∀ (n m : Nat) (x y : List UInt8), NoStar x → NoStar y → List.replicate n 42 ++ x = List.replicate m 42 ++ y → n = m ∧ x = y
  | 0, 0, x, y, _, _, h => ⟨rfl, by simpa using h⟩
  | 0, m + 1, x, y, hx, _, h => by simp [List.replicate_succ] at h; exact absurd h (hx _)
  | n + 1, 0, x, y, _, hy, h => by simp [List.replicate_succ] at h; exact absurd h.symm (hy _)
  | n + 1, m + 1, x, y, hx, hy, h => by
    simp [List.replicate_succ] at h; have := stars_pre n m x y hx hy h; exact ⟨by rw [this.1], this.2⟩
theorem group_pre {N : Nat} (H : TP N) {e f : Ex} (he : e.size ≤ N) (we : e.Wf) (wf : f.Wf) {x y : List UInt8} (h : 40 :: (e.text ++ [41]) ++ x = 40 :: (f.text ++ [41]) ++ y) : e = f ∧ x = y := by
  (have h' : e.text ++ (41 :: x) = f.text ++ (41 :: y) := by simpa using h); have := H e f (41 :: x) (41 :: y) he we wf (.inr ⟨_, rfl⟩) (.inr ⟨_, rfl⟩) h'; exact ⟨this.1, by simpa using this.2⟩
theorem group_not_eps {e : Ex} (we : e.Wf) (x y : List UInt8) : 40 :: (e.text ++ [41]) ++ x ≠ [40, 41] ++ y := by
  obtain ⟨c, t, e1, hc⟩ := text_start e we; rw [e1]; intro h; simp at h; exact hc.1 h.1
theorem cls_not40 {s : Ws} (hs : s.Ok) (h : s ≠ Ws.nil) (x y : List UInt8) : textW s ++ x ≠ 40 :: y := by
  obtain ⟨c, t, e1, _, hc⟩ := textW_start hs h; rw [e1]; intro h; simp at h; exact hc h.1
theorem base_pre {N : Nat} (H : TP N) (e f : Ex) (he : e.size ≤ N ∨ (e.isSeq = false ∧ e.isAlt = false)) (we : e.Wf) (wf : f.Wf) (se : e.isStar = false) (sf : f.isStar = false) {x y : List UInt8} (h : e.item ++ x = f.item ++ y) : e = f ∧ x = y := by
  match e, f, he, we, wf, se, sf, h with
  | .empty, .empty, _, _, _, _, _, h => exact ⟨rfl, by simpa using h⟩
  | .empty, .eps, _, _, _, _, _, h => exact absurd h (by simp [Ex.item, Ex.isSeq, Ex.isAlt, roundL, Ex.text])
  | .empty, .cls t, _, _, wf, _, _, h => exact absurd h.symm (textW_not_empty wf.1 wf.2 y x)
  | .empty, .seq _ _, _, _, _, _, _, h => exact absurd h (by simp [Ex.item, Ex.isSeq, Ex.isAlt, roundL, Ex.text])
  | .empty, .alt _ _, _, _, _, _, _, h => exact absurd h (by simp [Ex.item, Ex.isSeq, Ex.isAlt, roundL, Ex.text])
  | .eps, .empty, _, _, _, _, _, h => exact absurd h (by simp [Ex.item, Ex.isSeq, Ex.isAlt, roundL, Ex.text])
  | .eps, .eps, _, _, _, _, _, h => exact ⟨rfl, by simpa using h⟩
  | .eps, .cls t, _, _, wf, _, _, h => exact absurd h.symm (cls_not40 wf.1 wf.2 y _)
  | .eps, .seq _ _, _, _, wf, _, _, h => exact absurd h.symm (group_not_eps wf y x)
  | .eps, .alt _ _, _, _, wf, _, _, h => exact absurd h.symm (group_not_eps wf y x)
  | .cls s, .empty, _, we, _, _, _, h => exact absurd h (textW_not_empty we.1 we.2 x y)
  | .cls s, .eps, _, we, _, _, _, h => exact absurd h (cls_not40 we.1 we.2 x _)
  | .cls s, .cls t, _, we, wf, _, _, h =>
    have := textW_pre we.1 wf.1 we.2 wf.2 h; exact ⟨by rw [this.1], this.2⟩
  | .cls s, .seq _ _, _, we, _, _, _, h => exact absurd h (cls_not40 we.1 we.2 x _)
  | .cls s, .alt _ _, _, we, _, _, _, h => exact absurd h (cls_not40 we.1 we.2 x _)
  | .seq _ _, .empty, _, _, _, _, _, h => exact absurd h (by simp [Ex.item, Ex.isSeq, Ex.isAlt, roundL, Ex.text])
  | .seq _ _, .eps, _, we, _, _, _, h => exact absurd h (group_not_eps we x y)
  | .seq _ _, .cls t, _, _, wf, _, _, h => exact absurd h.symm (cls_not40 wf.1 wf.2 y _)
  | .seq a b, .seq c d, he, we, wf, _, _, h => exact group_pre H (by simpa [Ex.isSeq] using he) we wf h
  | .seq a b, .alt c d, he, we, wf, _, _, h => exact group_pre H (by simpa [Ex.isSeq] using he) we wf h
  | .alt _ _, .empty, _, _, _, _, _, h => exact absurd h (by simp [Ex.item, Ex.isSeq, Ex.isAlt, roundL, Ex.text])
  | .alt _ _, .eps, _, we, _, _, _, h => exact absurd h (group_not_eps we x y)
  | .alt _ _, .cls t, _, _, wf, _, _, h => exact absurd h.symm (cls_not40 wf.1 wf.2 y _)
  | .alt a b, .seq c d, he, we, wf, _, _, h => exact group_pre H (by simpa [Ex.isAlt] using he) we wf h
  | .alt a b, .alt c d, he, we, wf, _, _, h => exact group_pre H (by simpa [Ex.isAlt] using he) we wf h
theorem item_pre {N : Nat} (H : TP N) {e f : Ex} (he : e.size ≤ N ∨ (e.isSeq = false ∧ e.isAlt = false ∧ e.size ≤ N + 1)) (we : e.Wf) (wf : f.Wf) {x y : List UInt8} (hx : NoStar x) (hy : NoStar y) (h : e.item ++ x = f.item ++ y) : e = f ∧ x = y := by
  rw [item_base e, item_base f, List.append_assoc, List.append_assoc] at h; have hs := base_size e
  have hb : e.base.size ≤ N ∨ (e.base.isSeq = false ∧ e.base.isAlt = false) := by
    rcases he with he | ⟨h1, h2, h3⟩
    · exact .inl (by omega)
    · cases e with
      | star a =>
        refine .inl ?_; have : (Ex.star a).stars = a.stars + 1 := rfl; omega
      | _ => exact .inr ⟨h1, h2⟩
  have h1 := base_pre H e.base f.base hb (base_wf e we) (base_wf f wf) (base_star e) (base_star f) h; have h2 := stars_pre _ _ _ _ hx hy h1.2; exact ⟨base_inj e f h1.1 h2.1, h2.2⟩
theorem part_pre {N : Nat} (H : TP N) : ∀ (e f : Ex) (x y : List UInt8), (e.size ≤ N ∨ (e.isAlt = false ∧ e.size ≤ N + 1)) → e.Wf → f.Wf → Term1 x → Term1 y → e.part ++ x = f.part ++ y → e = f ∧ x = y
  | .seq a b, f, x, y, he, we, wf, hx, hy, h => by
    have hz : (Ex.seq a b).size = 1 + a.size + b.size := rfl; (have ha : a.size ≤ N := by omega); (have hb : b.size ≤ N := by omega); rw [part_seq, List.append_assoc] at h
    by_cases hf : f.isSeq = true
    · match f, hf, wf, h with
      | .seq c d, _, wf, h =>
        rw [part_seq, List.append_assoc] at h; have h1 := item_pre H (.inl ha) we.1 wf.1 (noStar_part we.2 x) (noStar_part wf.2 y) h; have h2 := part_pre H b d x y (.inl hb) we.2 wf.2 hx hy h1.2; exact ⟨by rw [h1.1, h2.1], h2.2⟩
    · rw [part_item (e := f) (by simpa using hf)] at h; have h1 := item_pre H (.inl ha) we.1 wf (noStar_part we.2 x) hy.noStar h; exact (term_not_part we.2 hy h1.2).elim
  | .empty, f, x, y, he, we, wf, hx, hy, h => part_one H rfl he we wf hx hy h
  | .eps, f, x, y, he, we, wf, hx, hy, h => part_one H rfl he we wf hx hy h
  | .cls _, f, x, y, he, we, wf, hx, hy, h => part_one H rfl he we wf hx hy h
  | .alt _ _, f, x, y, he, we, wf, hx, hy, h => part_one H rfl he we wf hx hy h
  | .star _, f, x, y, he, we, wf, hx, hy, h => part_one H rfl he we wf hx hy h
where
  part_one {N : Nat} (H : TP N) {e f : Ex} {x y : List UInt8} (hse : e.isSeq = false) (he : e.size ≤ N ∨ (e.isAlt = false ∧ e.size ≤ N + 1)) (we : e.Wf) (wf : f.Wf) (hx : Term1 x) (hy : Term1 y) (h : e.part ++ x = f.part ++ y) : e = f ∧ x = y := by
    rw [part_item hse] at h
    have he' : e.size ≤ N ∨ (e.isSeq = false ∧ e.isAlt = false ∧ e.size ≤ N + 1) := by
      rcases he with he | ⟨h1, h2⟩
      · exact .inl he
      · exact .inr ⟨hse, h1, h2⟩
    by_cases hf : f.isSeq = true
    · match f, hf, wf, h with
      | .seq c d, _, wf, h =>
        rw [part_seq, List.append_assoc] at h; have h1 := item_pre H he' we wf.1 hx.noStar (noStar_part wf.2 y) h; exact (term_not_part wf.2 hx h1.2.symm).elim
    · rw [part_item (by simpa using hf)] at h; exact item_pre H he' we wf hx.noStar hy.noStar h
theorem Term0.one {x : List UInt8} (h : Term0 x) : Term1 x := by
  rcases h with h | h
  · exact .inl h
  · exact .inr (.inl h)
theorem text_pre (N : Nat) : TP N := by
  induction N with
  | zero =>
    intro e f x y he
    have : 0 < e.size := by cases e <;> simp [Ex.size] <;> omega
    omega
  | succ N H =>
    intro e f x y he we wf hx hy h
    by_cases hea : e.isAlt = true
    · match e, hea, he, we, h with
      | .alt a b, _, he, we, h =>
        have hz : (Ex.alt a b).size = 1 + a.size + b.size := rfl; rw [text_alt, List.append_assoc, List.cons_append] at h
        by_cases hfa : f.isAlt = true
        · match f, hfa, wf, h with
          | .alt c d, _, wf, h =>
            rw [text_alt, List.append_assoc, List.cons_append] at h; have h1 := part_pre H a c _ _ (.inl (by omega)) we.1 wf.1 (.inr (.inr ⟨_, rfl⟩)) (.inr (.inr ⟨_, rfl⟩)) h; have h2 := H b d x y (by omega) we.2 wf.2 hx hy (by simpa using h1.2); exact ⟨by rw [h1.1, h2.1], h2.2⟩
        · rw [← part_text (e := f) (by simpa using hfa)] at h; have h1 := part_pre H a f _ _ (.inl (by omega)) we.1 wf (.inr (.inr ⟨_, rfl⟩)) hy.one h
          rcases hy with hy | ⟨t, hy⟩
          · rw [hy] at h1; simp at h1
          · rw [hy] at h1; simp at h1
    · rw [← part_text (e := e) (by simpa using hea)] at h
      by_cases hfa : f.isAlt = true
      · match f, hfa, wf, h with
        | .alt c d, _, wf, h =>
          rw [text_alt, List.append_assoc, List.cons_append] at h; have h1 := part_pre H e c _ _ (.inr ⟨by simpa using hea, he⟩) we wf.1 hx.one (.inr (.inr ⟨_, rfl⟩)) h
          rcases hx with hx | ⟨t, hx⟩
          · rw [hx] at h1; simp at h1
          · rw [hx] at h1; simp at h1
      · rw [← part_text (e := f) (by simpa using hfa)] at h; exact part_pre H e f x y (.inr ⟨by simpa using hea, he⟩) we wf hx.one hy.one h
theorem text_inj {e f : Ex} (we : e.Wf) (wf : f.Wf) (h : e.text = f.text) : e = f :=
  (text_pre e.size e f [] [] (Nat.le_refl _) we wf (.inl rfl) (.inl rfl) (by simpa using h)).1
theorem round_length (s : List UInt8) (b : Bool) : (roundL s b).length ≤ s.length + 2 := by
  unfold roundL; split <;> simp
theorem text_length : ∀ e : Ex, e.text.length ≤ 2010 * e.size
  | .empty => by simp [Ex.text, Ex.size]
  | .eps => by simp [Ex.text, Ex.size]
  | .cls s => by have := textW_length s; simp [Ex.text, Ex.size]; omega
  | .seq a b => by
    have h1 := text_length a; have h2 := text_length b; have h3 := round_length a.text (a.isSeq || a.isAlt); have h4 := round_length b.text b.isAlt; simp [Ex.text, Ex.size]; omega
  | .alt a b => by
    have h1 := text_length a; have h2 := text_length b; have h3 := round_length a.text a.isAlt; simp [Ex.text, Ex.size]; omega
  | .star a => by
    have h1 := text_length a; have h3 := round_length a.text (a.isSeq || a.isAlt); simp [Ex.text, Ex.size]; omega
theorem text_ne {e : Ex} (h : e.Wf) : e.text ≠ [] := by
  obtain ⟨c, t, e1, _⟩ := text_start e h; rw [e1]; simp
end Go.Proofs.YthgghaaddankoaaGreatDoor
/- Lemmas of mine. -/
namespace Go.Proofs.YthgghaaddankoaaGreatDoor
theorem Ws.nil_join (s : Ws) : Ws.nil.join s = s := by
  obtain ⟨a, b, c, d⟩ := s; simp [Ws.join, Ws.nil]
instance decWs (s t : Ws) : Decidable (s = t) :=
  if h : s.a = t.a ∧ s.b = t.b ∧ s.c = t.c ∧ s.d = t.d then .isTrue (by cases s; cases t; simp at h; simp [h]) else .isFalse (fun e => h (by simp [e]))
open Go.RowKit
def Room (w : World) (g n : Nat) : Prop := ∃ arr, w.heap[g]? = some (.cells arr 39) ∧ arr.size = n
theorem Room.lt {w : World} {g n : Nat} (h : Room w g n) : g < w.heap.size := by
  obtain ⟨arr, h, _⟩ := h; exact (Array.getElem?_eq_some_iff.1 h).1
theorem Room.of {w w' : World} {g n : Nat} (h : Room w g n) (e : w'.heap[g]? = w.heap[g]?) : Room w' g n := by
  obtain ⟨arr, h, hs⟩ := h; exact ⟨arr, e.trans h, hs⟩
theorem Room.cells {w : World} {g n : Nat} (h : Room w g n) (o : Nat) (ho : o < n) : (∃ v, w.cell? ⟨g, o, none⟩ = some v) ∧ w.frozen? ⟨g, o, none⟩ = false := by
  obtain ⟨arr, h, hs⟩ := h; refine ⟨⟨arr[o]'(by omega), ?_⟩, Lib.frozen_of_heap h o⟩; rw [Lib.cell_of_heap h]; simp [hs, ho]
theorem setCell_at {w : World} {g : Nat} {arr : Array Value} (h : w.heap[g]? = some (.cells arr 39)) (o : Nat) (y : Value) : (w.setCell ⟨g, o, none⟩ y).heap[g]? = some (.cells (arr.setIfInBounds o y) 39) := by
  simp [World.setCell, Array.getElem?_modify, h]
def put6 (w : World) (g off : Nat) (y0 y1 y2 y3 y4 y5 : Value) : World := (((((w.setCell ⟨g, off, none⟩ y0).setCell ⟨g, off + 1, none⟩ y1).setCell ⟨g, off + 2, none⟩ y2).setCell ⟨g, off + 3, none⟩ y3).setCell ⟨g, off + 4, none⟩ y4).setCell ⟨g, off + 5, none⟩ y5
theorem put6_size (w : World) (g off : Nat) (y0 y1 y2 y3 y4 y5 : Value) : (put6 w g off y0 y1 y2 y3 y4 y5).heap.size = w.heap.size := by simp [put6, World.setCell]
theorem put6_other (w : World) (g off : Nat) (y0 y1 y2 y3 y4 y5 : Value) {b : Nat} (hb : b ≠ g) : (put6 w g off y0 y1 y2 y3 y4 y5).heap[b]? = w.heap[b]? := by
  unfold put6; rw [Below.heap_setCell _ _ _ _ hb, Below.heap_setCell _ _ _ _ hb, Below.heap_setCell _ _ _ _ hb, Below.heap_setCell _ _ _ _ hb, Below.heap_setCell _ _ _ _ hb, Below.heap_setCell _ _ _ _ hb]
theorem put6_at {w : World} {g n off : Nat} (h : Room w g n) (ho : off + 6 ≤ n) (y0 y1 y2 y3 y4 y5 : Value) :
    Room (put6 w g off y0 y1 y2 y3 y4 y5) g n ∧
    ((put6 w g off y0 y1 y2 y3 y4 y5).cell? ⟨g, off, none⟩ = some y0 ∧ (put6 w g off y0 y1 y2 y3 y4 y5).cell? ⟨g, off + 1, none⟩ = some y1 ∧ (put6 w g off y0 y1 y2 y3 y4 y5).cell? ⟨g, off + 2, none⟩ = some y2 ∧ (put6 w g off y0 y1 y2 y3 y4 y5).cell? ⟨g, off + 3, none⟩ = some y3 ∧ (put6 w g off y0 y1 y2 y3 y4 y5).cell? ⟨g, off + 4, none⟩ = some y4 ∧ (put6 w g off y0 y1 y2 y3 y4 y5).cell? ⟨g, off + 5, none⟩ = some y5) ∧
    ∀ o, o < off ∨ off + 6 ≤ o → (put6 w g off y0 y1 y2 y3 y4 y5).cell? ⟨g, o, none⟩ = w.cell? ⟨g, o, none⟩ := by
  obtain ⟨arr, h, hs⟩ := h; have e := setCell_at (setCell_at (setCell_at (setCell_at (setCell_at (setCell_at h off y0) (off + 1) y1) (off + 2) y2) (off + 3) y3) (off + 4) y4) (off + 5) y5; have c := fun o => Lib.cell_of_heap (w := put6 w g off y0 y1 y2 y3 y4 y5) (j := o) e; refine ⟨⟨_, e, by simp [hs]⟩, ⟨?_, ?_, ?_, ?_, ?_, ?_⟩, ?_⟩
  · rw [c]; simp [Array.getElem?_setIfInBounds, hs]; omega
  · rw [c]; simp [Array.getElem?_setIfInBounds, hs]; omega
  · rw [c]; simp [Array.getElem?_setIfInBounds, hs]; omega
  · rw [c]; simp [Array.getElem?_setIfInBounds, hs]; omega
  · rw [c]; simp [Array.getElem?_setIfInBounds, hs]; omega
  · rw [c]; simp [Array.getElem?_setIfInBounds, hs]; omega
  · intro o h'; rw [c, Lib.cell_of_heap h]; (have n0 : ¬ off = o := by omega); (have n1 : ¬ off + 1 = o := by omega); (have n2 : ¬ off + 2 = o := by omega); (have n3 : ¬ off + 3 = o := by omega); (have n4 : ¬ off + 4 = o := by omega); (have n5 : ¬ off + 5 = o := by omega); simp [n0, n1, n2, n3, n4, n5]
theorem put6_below {w w' : World} {B g : Nat} (h : Below B w w') (hg : B ≤ g) (off : Nat) (y0 y1 y2 y3 y4 y5 : Value) : Below B w (put6 w' g off y0 y1 y2 y3 y4 y5) :=
  (((((h.setCell (p := ⟨g, off, none⟩) hg _).setCell (p := ⟨g, off + 1, none⟩) hg _).setCell (p := ⟨g, off + 2, none⟩) hg _).setCell (p := ⟨g, off + 3, none⟩) hg _).setCell (p := ⟨g, off + 4, none⟩) hg _).setCell (p := ⟨g, off + 5, none⟩) hg _
theorem NodeAt.cells {ok ok' : Nat → Prop} {w w' : World} {b off : Nat} {r : Rx} (h : NodeAt ok w b off r) (hk : Kept ok ok' w w') (hc : ∀ o, off ≤ o → o < off + 6 → w'.cell? ⟨b, o, none⟩ = w.cell? ⟨b, o, none⟩) : NodeAt ok' w' b off r := by
  obtain ⟨k, s, ks⟩ := r; unfold NodeAt at h ⊢; obtain ⟨h0, hs, ⟨c0, c1, c2, c3, c4⟩, al, cap, c5, h1, h2, h3⟩ := h; refine ⟨h0, hs, ⟨by rw [hc _ (by omega) (by omega)]; exact c0, by rw [hc _ (by omega) (by omega)]; exact c1, by rw [hc _ (by omega) (by omega)]; exact c2, by rw [hc _ (by omega) (by omega)]; exact c3, by rw [hc _ (by omega) (by omega)]; exact c4⟩, al, cap, by rw [hc _ (by omega) (by omega)]; exact c5, h1, h2, ?_⟩
  rcases h3 with h3 | ⟨b', off', e1, e2, e3, e4⟩
  · exact .inl h3
  · have hh := hk.2 b' e2 e3; exact .inr ⟨b', off', e1, Nat.lt_of_lt_of_le e2 hk.1, hh.1, NodesAt.go hk ks hh.2 e4⟩
theorem nodes_push {ok : Nat → Prop} {w : World} {g n : Nat} {l : List Rx} {r : Rx} {x0 x1 x2 x3 x4 x5 : Value} (hr : Room w g n) (hl : (l.length + 1) * 6 ≤ n) (hg : ¬ ok g) (h : NodesAt ok w g 0 l) (hv : ReAt ok w (.agg #[x0, x1, x2, x3, x4, x5]) r) :
    NodesAt ok (put6 w g (l.length * 6) x0 x1 x2 x3 x4 x5) g 0 (l ++ [r]) := by
  obtain ⟨hR, ⟨c0, c1, c2, c3, c4, c5⟩, hfar⟩ := put6_at hr (off := l.length * 6) (by omega) x0 x1 x2 x3 x4 x5; have hk : Kept ok ok w (put6 w g (l.length * 6) x0 x1 x2 x3 x4 x5) := ⟨by rw [put6_size]; exact Nat.le_refl _, fun b _ hb => ⟨hb, put6_other _ _ _ _ _ _ _ _ _ (fun e => hg (e ▸ hb))⟩⟩; refine nodesAt_of fun i hi => ?_
  by_cases e : i < l.length
  · rw [List.getElem_append_left e]; exact (nodesAt_get h i e).cells hk fun o h1 h2 => hfar o (.inl (by omega))
  · (have : i = l.length := by simp at hi; omega); subst this; rw [List.getElem_append_right (Nat.le_refl _)]; simp only [Nat.sub_self, List.getElem_cons_zero, Nat.zero_add]; exact node_at (hv.go hk) c0 c1 c2 c3 c4 c5
theorem room_made (w : World) (z : Array Value) (n : Nat) : Room (w.alloc (.cells (madeCells z n) 39)) w.heap.size n := ⟨_, blk_new w _, size_madeCells z n⟩
def zeroR : Array Value := #[.int .u8 0, .int .u64 0, .int .u64 0, .int .u64 0, .int .u64 0, .slice none 0 0]
theorem make_re (n : Nat) (hn : n < 2199023255552) (u : World) : (Instr.makeSlice 27 (.int .i64 (n : Int)) (.int .i64 (n : Int))).run Tryz.prog u =
    .ok (.slice (some ⟨u.heap.size, 0, none⟩) n n) (u.alloc (.cells (madeCells zeroR (n * 6)) 39)) := by
  obtain ⟨i0, hi, hz0, hz1, hz2⟩ := info_parts infoR; have h := run_make (P := Tryz.prog) u 27 39 i0 _ Tryz.underlying27 hi hz0 .i64 .i64 (n : Int) (n : Int) (by omega) (Int.le_refl _) (by rw [hz2]; omega) (by omega)
  simpa [hz1, Value.cells, zeroR] using h
open Go.RowKit
def nilBlk : Obj := .cells #[.int .u8 0, .int .u64 0, .int .u64 0, .int .u64 0, .int .u64 0, .slice none 0 0] 39
def reBlk (k a b c d : Nat) (sl : Value) : Obj := .cells #[.int .u8 k, .int .u64 a, .int .u64 b, .int .u64 c, .int .u64 d, sl] 39
def cloneInv (k a b c d : Nat) (sl : Value) (ks : List Rx) (w : World) (y : Value) (wr : World) : Prop := ∃ i : Nat, i ≤ ks.length ∧ y = .int .i64 i ∧
  wr.heap[w.heap.size]? = some (reBlk k a b c d sl) ∧ wr.heap[w.heap.size + 1]? = some nilBlk ∧ Room wr (w.heap.size + 2) (ks.length * 6) ∧
  NodesAt (New (w.heap.size + 3)) wr (w.heap.size + 2) 0 (ks.take i) ∧ Below w.heap.size w wr
set_option maxHeartbeats 4000000 in
theorem clone_any (N : Nat) : ∀ (r : Rx), r.size ≤ N → ∀ (ok : Nat → Prop) (v : Value) (w : World), ReAt ok w v r →
    Calls Tryz.prog 74 #[v] w (NewPost r w) := by
  induction N with
  | zero => intro r h; have := r.size_pos; omega
  | succ N ih =>
    rintro ⟨k, s, ks⟩ hN ok v w hR; obtain ⟨hk, hs, al, cap, rfl, hcap, hmax, hrow⟩ := hR; (have hN' : Rx.sizes ks ≤ N := by simp [Rx.size] at hN; omega); have IH := Lib.hid ih; have HR := Lib.hid hrow; obtain ⟨sa, sb, sc, sd⟩ := s; clear ih hrow hN
    by_cases hks : ks = []
    · subst hks; go_enter Tryz.func74, Tryz.ntmps74; go_wp2; refine ret_re (blk_at _ _ (by simp)) Tryz.results74 rfl rfl ⟨_, rfl, ?_, ((Below.refl _ w).alloc (Nat.le_refl _) _).alloc (by simp) _⟩; exact bareAt _ _ k ⟨sa, sb, sc, sd⟩ hk hs
    · have hpos : 0 < ks.length := List.length_pos_iff.2 hks; (have e0 : ((ks.length : Int) == 0) = false := by simp; omega); have hmk := make_re ks.length hmax; clear hks; go_enter Tryz.func74, Tryz.ntmps74; go_wp2
      go_loopw [19] (fun y wr => cloneInv k sa sb sc sd (.slice al ks.length cap) ks w y wr) (fun y _ => ks.length - (intOf y).toNat)
      case atStart =>
        refine ⟨0, Nat.zero_le _, rfl, ?_, ?_, ?_, by simp only [List.take_zero]; unfold NodesAt; trivial, (((Below.refl _ w).alloc (Nat.le_refl _) _).alloc (by simp) _).alloc (by simp; omega) _⟩
        · exact (Below.heap_alloc _ _ _ (by simp; omega)).trans ((Below.heap_alloc _ _ _ (by simp)).trans (blk_new w _))
        · exact (Below.heap_alloc _ _ _ (by simp)).trans (blk_at _ _ (by simp))
        · have := room_made ((w.alloc (reBlk k sa sb sc sd (.slice al ks.length cap))).alloc nilBlk) zeroR (ks.length * 6)
          simpa [reBlk, nilBlk] using this
      case round =>
        obtain ⟨i, hi, rfl, hb0, hb1, hroom, hnodes, hb⟩ := hrel; have HB0 := Lib.hid hb0; have HB1 := Lib.hid hb1; have HN := Lib.hid hnodes; have HM := Lib.hid hroom; clear hb0 hb1 hnodes hroom
        by_cases hlt : i < ks.length
        · obtain ⟨b, off, hab, hblt, hnode⟩ := HR.out.kid hlt; subst hab; have hkid := NodeAt.below hb _ hblt hnode; have hkz := size_kid hlt; have htk : ks.take (i + 1) = ks.take i ++ [ks[i]] := List.take_succ_eq_append_getElem hlt; (have hlen : (ks.take i).length = i := by simp; omega); have HTK := Lib.hid htk; have HLEN := Lib.hid hlen; clear htk hlen; generalize ks[i] = kid at *; obtain ⟨k', ⟨ta, tb, tc, td⟩, ks'⟩ := kid; obtain ⟨al', cap', ⟨c0, c1, c2, c3, c4, c5⟩, hre⟩ := hkid.read; simp only at c0 c1 c2 c3 c4 c5; have HRE := Lib.hid hre; clear hkid hnode hre; go_wp2_with fail; refine (IH.out _ (by omega) ok _ _ (HRE.out.below ((Below.refl _ wr).alloc (Nat.le_refl _) _))).mono ?_; rintro e w3 ⟨v, rfl, hv, hb3⟩; obtain ⟨x0, x1, x2, x3, x4, bl, n', cp, rfl⟩ := cells_re hv; have hgk := HM.out.lt; have hbr : Below wr.heap.size wr w3 := ((Below.refl _ wr).alloc (Nat.le_refl _) _).trans (hb3.mono (by simp)); have hroom : Room w3 (w.heap.size + 1 + 1) (ks.length * 6) := HM.out.of (hbr.block _ hgk); have hnodes : NodesAt (New (w.heap.size + 3)) w3 (w.heap.size + 1 + 1) 0 (ks.take i) := NodesAt.below hbr _ hgk HN.out
          have hv3 := hv.imp (ok' := New (w.heap.size + 3)) fun b _ h => by
            unfold New at h ⊢; simp at h; omega
          have hlen := HLEN.out; have hpush := nodes_push hroom (by rw [hlen]; omega) (by unfold New; omega) hnodes hv3; rw [hlen, ← HTK.out] at hpush; have hput := (put6_at hroom (off := i * 6) (by omega) (.int .u8 x0) (.int .u64 x1) (.int .u64 x2) (.int .u64 x3) (.int .u64 x4) (.slice bl n' cp)).1; have hbp := put6_below (hb.trans (hbr.mono hb.size)) (g := w.heap.size + 1 + 1) (by omega) (i * 6) (.int .u8 x0) (.int .u64 x1) (.int .u64 x2) (.int .u64 x3) (.int .u64 x4) (.slice bl n' cp); have ho := fun b (h : b ≠ w.heap.size + 1 + 1) => put6_other w3 (w.heap.size + 1 + 1) (i * 6) (.int .u8 x0) (.int .u64 x1) (.int .u64 x2) (.int .u64 x3) (.int .u64 x4) (.slice bl n' cp) h; have h0 := (ho w.heap.size (by omega)).trans ((hbr.block _ (by omega)).trans HB0.out); have h1 := (ho (w.heap.size + 1) (by omega)).trans ((hbr.block _ (by omega)).trans HB1.out); obtain ⟨⟨z0, q0⟩, f0⟩ := hroom.cells (i * 6) (by omega); obtain ⟨⟨z1, q1⟩, f1⟩ := hroom.cells (i * 6 + 1) (by omega); obtain ⟨⟨z2, q2⟩, f2⟩ := hroom.cells (i * 6 + 2) (by omega); obtain ⟨⟨z3, q3⟩, f3⟩ := hroom.cells (i * 6 + 3) (by omega); obtain ⟨⟨z4, q4⟩, f4⟩ := hroom.cells (i * 6 + 4) (by omega); obtain ⟨⟨z5, q5⟩, f5⟩ := hroom.cells (i * 6 + 5) (by omega); unfold put6 at hpush hput hbp h0 h1; have HPUSH := Lib.hid hpush; have HPUT := Lib.hid hput; have HBP := Lib.hid hbp; have H0 := Lib.hid h0; have H1 := Lib.hid h1; clear hv hb3 hbr hroom hnodes hv3 hlen hpush hput hbp ho h0 h1 c0 c1 c2 c3 c4 c5; go_wp2; exact ⟨⟨i + 1, by omega, by go_num, H0.out, H1.out, HPUT.out, HPUSH.out, HBP.out⟩, by simp [intOf]; omega⟩
        · have he : ks.take i = ks := List.take_of_length_le (by omega); rw [he] at HN; obtain ⟨d0, d1, d2, d3, d4, d5, f0, f1, f2, f3, f4, f5⟩ := cellsR HB0.out; obtain ⟨g0, g1, g2, g3, g4, g5, p0, p1, p2, p3, p4, p5⟩ := cellsR HB1.out; have hgk := HM.out.lt; have hb4 : (wr.setCell ⟨w.heap.size, 5, none⟩ (.slice (some ⟨w.heap.size + 1 + 1, 0, none⟩) ks.length ks.length)).heap[w.heap.size + 1]? = some nilBlk := (Below.heap_setCell _ _ _ _ (by simp)).trans HB1.out; have hp := putR hb4 (.int .u8 k) (.int .u64 sa) (.int .u64 sb) (.int .u64 sc) (.int .u64 sd) (.slice (some ⟨w.heap.size + 1 + 1, 0, none⟩) ks.length ks.length); have hbb := putB (hb.setCell (p := ⟨w.heap.size, 5, none⟩) (Nat.le_refl _) (.slice (some ⟨w.heap.size + 1 + 1, 0, none⟩) ks.length ks.length)) (by omega : w.heap.size ≤ w.heap.size + 1) (.int .u8 k) (.int .u64 sa) (.int .u64 sb) (.int .u64 sc) (.int .u64 sd) (.slice (some ⟨w.heap.size + 1 + 1, 0, none⟩) ks.length ks.length)
          have hfar : ∀ b, b ≠ w.heap.size → b ≠ w.heap.size + 1 → (putW (wr.setCell ⟨w.heap.size, 5, none⟩ (.slice (some ⟨w.heap.size + 1 + 1, 0, none⟩) ks.length ks.length)) (w.heap.size + 1) (.int .u8 k) (.int .u64 sa) (.int .u64 sb) (.int .u64 sc) (.int .u64 sd) (.slice (some ⟨w.heap.size + 1 + 1, 0, none⟩) ks.length ks.length)).heap[b]? = wr.heap[b]? := by
            intro b n0 n1; unfold putW; rw [Below.heap_setCell _ _ _ _ n1, Below.heap_setCell _ _ _ _ n1, Below.heap_setCell _ _ _ _ n1, Below.heap_setCell _ _ _ _ n1, Below.heap_setCell _ _ _ _ n1, Below.heap_setCell _ _ _ _ n1, Below.heap_setCell _ _ _ _ n0]
          (have hsz : (putW (wr.setCell ⟨w.heap.size, 5, none⟩ (.slice (some ⟨w.heap.size + 1 + 1, 0, none⟩) ks.length ks.length)) (w.heap.size + 1) (.int .u8 k) (.int .u64 sa) (.int .u64 sb) (.int .u64 sc) (.int .u64 sd) (.slice (some ⟨w.heap.size + 1 + 1, 0, none⟩) ks.length ks.length)).heap.size = wr.heap.size := by simp [putW, World.setCell])
          have hrow : RowAt (New w.heap.size) (putW (wr.setCell ⟨w.heap.size, 5, none⟩ (.slice (some ⟨w.heap.size + 1 + 1, 0, none⟩) ks.length ks.length)) (w.heap.size + 1) (.int .u8 k) (.int .u64 sa) (.int .u64 sb) (.int .u64 sc) (.int .u64 sd) (.slice (some ⟨w.heap.size + 1 + 1, 0, none⟩) ks.length ks.length)) (some ⟨w.heap.size + 1 + 1, 0, none⟩) ks := by
            refine .inr ⟨_, _, rfl, by rw [hsz]; exact hgk, by unfold New; omega, NodesAt.go (ok := New (w.heap.size + 3)) ⟨by rw [hsz]; exact Nat.le_refl _, fun b _ h => ?_⟩ ks (hfar _ (by omega) (by omega)) HN.out⟩; unfold New at h; exact ⟨by unfold New; omega, hfar b (by omega) (by omega)⟩
          unfold putW at hp hbb hrow; have HP := Lib.hid hp; have HBB := Lib.hid hbb; have HROW := Lib.hid hrow; clear hp hbb hrow hfar hsz hb4; go_wp2; exact ret_re HP.out Tryz.results74 rfl rfl ⟨_, rfl, ⟨hk, hs, _, _, rfl, Nat.le_refl _, hmax, HROW.out⟩, HBB.out⟩
theorem cloneR (r : Rx) {ok : Nat → Prop} (v : Value) (w : World) (h : ReAt ok w v r) : Calls Tryz.prog 74 #[v] w (NewPost r w) := clone_any r.size r (Nat.le_refl _) ok v w h
open Go.RowKit
def foldR (k o : Nat) : List Rx → Rx
  | [] => .node o Ws.nil []
  | [r] => r
  | r :: r' :: rs => .node k Ws.nil [r, foldR k o (r' :: rs)]
theorem foldR_cons (k o : Nat) (r : Rx) {l : List Rx} (h : l ≠ []) : foldR k o (r :: l) = .node k Ws.nil [r, foldR k o l] := by
  cases l with
  | nil => exact absurd rfl h
  | cons a t => rfl
def Own (n g b : Nat) : Prop := n + 1 ≤ b ∧ b ≠ g
def chainInv (k o : Nat) (l : List Rx) (w : World) (g : Nat) (y : Value) (wr : World) : Prop := ∃ (j : Nat) (v : Value) (x0 x1 x2 x3 x4 : Int) (al : Option Addr) (n cap : Nat), j < l.length ∧ y = .int .i64 ((j : Int) - 1) ∧
  v = .agg #[.int .u8 x0, .int .u64 x1, .int .u64 x2, .int .u64 x3, .int .u64 x4, .slice al n cap] ∧
  wr.heap[g]? = some (.cells #[.int .u8 x0, .int .u64 x1, .int .u64 x2, .int .u64 x3, .int .u64 x4, .slice al n cap] 39) ∧ wr.heap[w.heap.size]? = some nilBlk ∧
  ReAt (Own w.heap.size g) wr v (foldR k o (l.drop j)) ∧ Below w.heap.size w wr
theorem putW_size (w : World) (g : Nat) (y0 y1 y2 y3 y4 y5 : Value) : (putW w g y0 y1 y2 y3 y4 y5).heap.size = w.heap.size := by simp [putW, World.setCell]
theorem putW_other (w : World) (g : Nat) (y0 y1 y2 y3 y4 y5 : Value) {b : Nat} (h : b ≠ g) : (putW w g y0 y1 y2 y3 y4 y5).heap[b]? = w.heap[b]? := by
  unfold putW; rw [Below.heap_setCell _ _ _ _ h, Below.heap_setCell _ _ _ _ h, Below.heap_setCell _ _ _ _ h, Below.heap_setCell _ _ _ _ h, Below.heap_setCell _ _ _ _ h, Below.heap_setCell _ _ _ _ h]
def chainW (w' : World) (g k : Nat) (z0 z1 z2 z3 z4 z5 y0 y1 y2 y3 y4 y5 : Value) : World :=
  (putW w' g (.int .u8 k) (.int .u64 0) (.int .u64 0) (.int .u64 0) (.int .u64 0) (.slice (some ⟨w'.heap.size, 0, none⟩) 2 2)).alloc (.cells #[z0, z1, z2, z3, z4, z5, y0, y1, y2, y3, y4, y5] 39)
theorem chain_step {n0 g k : Nat} {w wr w' : World} {z0 z1 z2 z3 z4 z5 y0 y1 y2 y3 y4 y5 : Value} {r t : Rx} (hk : k < 256) (hn0 : n0 + 1 ≤ g)
    (hG : wr.heap[g]? = some (.cells #[y0, y1, y2, y3, y4, y5] 39)) (hN : wr.heap[n0]? = some nilBlk) (hv : ReAt (Own n0 g) wr (.agg #[y0, y1, y2, y3, y4, y5]) t)
    (hv2 : ReAt (New wr.heap.size) w' (.agg #[z0, z1, z2, z3, z4, z5]) r) (hb2 : Below wr.heap.size wr w') (hb : Below n0 w wr) :
    (chainW w' g k z0 z1 z2 z3 z4 z5 y0 y1 y2 y3 y4 y5).heap[g]? = some (.cells #[.int .u8 k, .int .u64 0, .int .u64 0, .int .u64 0, .int .u64 0, .slice (some ⟨w'.heap.size, 0, none⟩) 2 2] 39) ∧
    (chainW w' g k z0 z1 z2 z3 z4 z5 y0 y1 y2 y3 y4 y5).heap[n0]? = some nilBlk ∧
    ReAt (Own n0 g) (chainW w' g k z0 z1 z2 z3 z4 z5 y0 y1 y2 y3 y4 y5) (.agg #[.int .u8 k, .int .u64 0, .int .u64 0, .int .u64 0, .int .u64 0, .slice (some ⟨w'.heap.size, 0, none⟩) 2 2]) (.node k Ws.nil [r, t]) ∧
    Below n0 w (chainW w' g k z0 z1 z2 z3 z4 z5 y0 y1 y2 y3 y4 y5) := by
  have hg : g < wr.heap.size := (Array.getElem?_eq_some_iff.1 hG).1; have hs := hb2.size; have hG' : w'.heap[g]? = some (.cells #[y0, y1, y2, y3, y4, y5] 39) := (hb2.block g hg).trans hG; have hsz := putW_size w' g (.int .u8 k) (.int .u64 0) (.int .u64 0) (.int .u64 0) (.int .u64 0) (.slice (some ⟨w'.heap.size, 0, none⟩) 2 2)
  have hold : ∀ b, b < w'.heap.size → b ≠ g → (chainW w' g k z0 z1 z2 z3 z4 z5 y0 y1 y2 y3 y4 y5).heap[b]? = w'.heap[b]? := fun b h1 h2 =>
    (Below.heap_alloc _ _ _ (by rw [hsz]; exact h1)).trans (putW_other _ _ _ _ _ _ _ _ h2)
  have hsize : w'.heap.size ≤ (chainW w' g k z0 z1 z2 z3 z4 z5 y0 y1 y2 y3 y4 y5).heap.size := by
    unfold chainW; rw [World.size_alloc, hsz]; omega
  refine ⟨(Below.heap_alloc _ _ _ (by rw [hsz]; omega)).trans (putR hG' _ _ _ _ _ _), (hold n0 (by omega) (by omega)).trans ((hb2.block n0 (by omega)).trans hN), ?_, ?_⟩
  · refine ⟨hk, Ws.nil_ok, _, _, rfl, Nat.le_refl _, by simp, row_two (blk_at _ _ hsz.symm) ?_ ?_ ?_⟩
    · unfold Own; omega
    · refine hv2.go ⟨hsize, fun b h1 h2 => ⟨?_, hold b h1 ?_⟩⟩
      · unfold New at h2; unfold Own; omega
      · unfold New at h2; omega
    · refine hv.go ⟨Nat.le_trans hs hsize, fun b h1 h2 => ⟨h2, ?_⟩⟩; rw [hold b (by omega) h2.2, hb2.block b h1]
  · have h1 : Below n0 w w' := hb.trans (hb2.mono (by omega)); exact (putB h1 (by omega : n0 ≤ g) _ _ _ _ _ _).alloc (by rw [hsz]; omega) _
set_option maxHeartbeats 4000000 in
theorem chain_any {ok : Nat → Prop} (k o : Nat) (l : List Rx) (al : Option Addr) (cap : Nat) (w : World) (hk : k < 256) (ho : o < 256) (hlen : l.length < 2199023255552) (h : RowAt ok w al l) :
    Calls Tryz.prog 49 #[.int .u8 k, .int .u8 o, .slice al l.length cap] w (NewPost (foldR k o l) w) := by
  have HR := Lib.hid h; clear h
  by_cases hl : l = []
  · subst hl; go_enter Tryz.func49, Tryz.ntmps49; go_wp2; exact ret_re (blk_new w _) Tryz.results49 rfl rfl ⟨_, rfl, bareAt _ _ o Ws.nil ho Ws.nil_ok, (Below.refl _ w).alloc (Nat.le_refl _) _⟩
  · have hpos : 0 < l.length := List.length_pos_iff.2 hl; (have e0 : ((l.length : Int) == 0) = false := by simp; omega); obtain ⟨b, off, hab, hblt, hnode⟩ := HR.out.kid (i := l.length - 1) (by omega); subst hab; have hb0 := (Below.refl _ w).alloc (Nat.le_refl _) nilBlk; have hkid := NodeAt.below hb0 _ hblt hnode
    have hdrop : l.drop (l.length - 1) = [l[l.length - 1]'(by omega)] := by
      rw [List.drop_eq_getElem_cons (by omega), List.drop_of_length_le (by omega)]
    have HD := Lib.hid hdrop; clear hdrop hl; generalize l[l.length - 1]'(by omega) = kid at *; obtain ⟨k', ⟨ta, tb, tc, td⟩, ks'⟩ := kid; obtain ⟨al', cap', ⟨c0, c1, c2, c3, c4, c5⟩, hre⟩ := hkid.read; simp only at c0 c1 c2 c3 c4 c5; unfold nilBlk at c0 c1 c2 c3 c4 c5; have HRE := Lib.hid hre; clear hkid hnode hre; (have q1 : (l.length : Int) - 1 = ((l.length - 1 : Nat) : Int) := by omega); (have q2 : ((l.length - 1 : Nat) : Int) < (l.length : Int) := by omega); go_enter Tryz.func49, Tryz.ntmps49; go_wp2_with fail; refine (cloneR _ _ _ HRE.out).mono ?_; rintro e w1 ⟨v, rfl, hv, hb1⟩; obtain ⟨x0, x1, x2, x3, x4, bl, n', cp, rfl⟩ := cells_re hv; (have hsz1 : w.heap.size + 1 ≤ w1.heap.size := by have := hb1.size; simpa using this); have hbw : Below w.heap.size w w1 := hb0.trans (hb1.mono (by simp)); have hnb : w1.heap[w.heap.size]? = some nilBlk := (hb1.block _ (by simp)).trans (blk_new w _); have HV := Lib.hid hv; clear hv hb1 c0 c1 c2 c3 c4 c5 HRE hb0; have HBW := Lib.hid hbw; have HNB := Lib.hid hnb; clear hbw hnb; go_wp2
    go_loopw [9] (fun y wr => chainInv k o l w w1.heap.size y wr) (fun y _ => (intOf y + 1).toNat)
    case atStart =>
      refine ⟨l.length - 1, _, x0, x1, x2, x3, x4, bl, n', cp, by omega, ?_, rfl, blk_new w1 _, (Below.heap_alloc _ _ _ (by omega)).trans HNB.out, ?_, HBW.out.alloc (by omega) _⟩
      · first | rfl | (congr 1; omega)
      · rw [HD.out]; refine HV.out.go ⟨by simp, fun b hb h => ⟨?_, Below.heap_alloc _ _ _ hb⟩⟩; unfold New at h; unfold Own; simp at h; omega
    case round =>
      obtain ⟨j, v, y0, y1, y2, y3, y4, yl, yn, yc, hj, rfl, rfl, hg, hn, hv, hb⟩ := hrel; have HG := Lib.hid hg; have HN := Lib.hid hn; have HV' := Lib.hid hv; clear hg hn hv HV HBW HNB HD; have hgs := (Array.getElem?_eq_some_iff.1 HG.out).1
      by_cases hj0 : j = 0
      · subst hj0; obtain ⟨d0, e1, e2, e3, e4, e5, f0, f1, f2, f3, f4, f5⟩ := cellsR HG.out; obtain ⟨g0, g1, g2, g3, g4, g5, p0, p1, p2, p3, p4, p5⟩ := cellsR HN.out; have hp := putR HN.out (.int .u8 y0) (.int .u64 y1) (.int .u64 y2) (.int .u64 y3) (.int .u64 y4) (.slice yl yn yc); have hbb := putB hb (Nat.le_refl w.heap.size) (.int .u8 y0) (.int .u64 y1) (.int .u64 y2) (.int .u64 y3) (.int .u64 y4) (.slice yl yn yc)
        have hre : ReAt (New w.heap.size) (putW wr w.heap.size (.int .u8 y0) (.int .u64 y1) (.int .u64 y2) (.int .u64 y3) (.int .u64 y4) (.slice yl yn yc)) (.agg #[.int .u8 y0, .int .u64 y1, .int .u64 y2, .int .u64 y3, .int .u64 y4, .slice yl yn yc]) (foldR k o l) := by
          have h := HV'.out; rw [List.drop_zero] at h; refine h.go ⟨by rw [putW_size]; exact Nat.le_refl _, fun b _ hb => ?_⟩; unfold Own at hb; exact ⟨by unfold New; omega, putW_other _ _ _ _ _ _ _ _ (by omega)⟩
        unfold putW at hp hbb hre; have HP := Lib.hid hp; have HBB := Lib.hid hbb; have HRE := Lib.hid hre; clear hp hbb hre; go_wp2; exact ret_re HP.out Tryz.results49 rfl rfl ⟨_, rfl, HRE.out, HBB.out⟩
      · (have d1 : decide (0 ≤ (j : Int) - 1) = true := by simp; omega); obtain ⟨b2, off2, hab2, hblt2, hnode2⟩ := HR.out.kid (i := j - 1) (by omega); simp at hab2; obtain ⟨rfl, rfl⟩ := hab2; have hkid2 := NodeAt.below hb _ hblt2 hnode2
        have hdrop : l.drop (j - 1) = l[j - 1]'(by omega) :: l.drop j := by
          rw [List.drop_eq_getElem_cons (by omega)]; congr 2; omega
        (have hne : l.drop j ≠ [] := by simp; omega); have hfo := foldR_cons k o (l[j - 1]'(by omega)) hne; rw [← hdrop] at hfo; have HFO := Lib.hid hfo; clear hdrop hne hfo hnode2; generalize l[j - 1]'(by omega) = kid2 at *; obtain ⟨k2, ⟨sa, sb, sc, sd⟩, ks2⟩ := kid2; obtain ⟨al2, cap2, ⟨c0, c1, c2, c3, c4, c5⟩, hre⟩ := hkid2.read; simp only at c0 c1 c2 c3 c4 c5; have HRE := Lib.hid hre; clear hkid2 hre; (have r1 : (j : Int) - 1 = ((j - 1 : Nat) : Int) := by omega); (have r2 : ((j - 1 : Nat) : Int) < (l.length : Int) := by omega); obtain ⟨d0, e1, e2, e3, e4, e5, f0, f1, f2, f3, f4, f5⟩ := cellsR HG.out; go_wp2_with fail; have KC := Lib.hid fun W (h : Below wr.heap.size wr W) => cloneR (.node k2 ⟨sa, sb, sc, sd⟩ ks2) _ W (HRE.out.below h)
        go_region_with (go_at_call 74; refine (KC.out _ (Below.refl _ _).drew).mono ?_; (rintro e w' ⟨v2, rfl, hv2, hb2⟩); obtain ⟨z0, z1, z2, z3, z4, zl, zn, zc, rfl⟩ := cells_re hv2; obtain ⟨d0', e1', e2', e3', e4', e5', f0', f1', f2', f3', f4', f5'⟩ := cellsR ((hb2.block _ hgs).trans HG.out); have hgs' : w1.heap.size < w'.heap.size := Nat.lt_of_lt_of_le hgs hb2.size)
        all_goals
          obtain ⟨s1, s2, s3, s4⟩ := chain_step (k := k) hk hsz1 HG.out HN.out HV'.out hv2 ((Below.refl _ wr).drew.trans hb2) hb; have HS1 := Lib.hid s1; have HS2 := Lib.hid s2; have HS3 := Lib.hid s3; have HS4 := Lib.hid s4; unfold chainW putW at HS1 HS2 HS3 HS4; clear s1 s2 s3 s4; go_wp2; refine ⟨⟨j - 1, _, k, 0, 0, 0, 0, _, 2, 2, by omega, ?_, rfl, HS1.out, HS2.out, ?_, HS4.out⟩, ?_⟩
          · first | rfl | (congr 1; omega)
          · rw [HFO.out]; exact HS3.out
          · simp [intOf]; omega
theorem pass_re {w w1 : World} {r : Rx} {x0 x1 x2 x3 x4 x5 : Value} (hv : ReAt (New (w.alloc nilBlk).heap.size) w1 (.agg #[x0, x1, x2, x3, x4, x5]) r) (hb1 : Below (w.alloc nilBlk).heap.size (w.alloc nilBlk) w1) :
    w1.heap[w.heap.size]? = some nilBlk ∧ (putW w1 w.heap.size x0 x1 x2 x3 x4 x5).heap[w.heap.size]? = some (.cells #[x0, x1, x2, x3, x4, x5] 39) ∧
    ReAt (New w.heap.size) (putW w1 w.heap.size x0 x1 x2 x3 x4 x5) (.agg #[x0, x1, x2, x3, x4, x5]) r ∧ Below w.heap.size w (putW w1 w.heap.size x0 x1 x2 x3 x4 x5) := by
  have hn : w1.heap[w.heap.size]? = some nilBlk := (hb1.block _ (by simp)).trans (blk_new w _); refine ⟨hn, putR hn _ _ _ _ _ _, ?_, putB (((Below.refl _ w).alloc (Nat.le_refl _) _).trans (hb1.mono (by simp))) (Nat.le_refl _) _ _ _ _ _ _⟩; refine hv.go ⟨by rw [putW_size]; exact Nat.le_refl _, fun b _ h => ?_⟩; unfold New at h; simp at h; exact ⟨by unfold New; omega, putW_other _ _ _ _ _ _ _ _ (by omega)⟩
theorem then_any {ok : Nat → Prop} (l : List Rx) (al : Option Addr) (cap : Nat) (w : World) (hlen : l.length < 2199023255552) (h : RowAt ok w al l) :
    Calls Tryz.prog 32 #[.slice al l.length cap] w (NewPost (foldR 4 2 l) w) := by
  have K := Lib.hid (chain_any 4 2 l al cap (w.alloc nilBlk) (by decide) (by decide) hlen (h.below ((Below.refl _ w).alloc (Nat.le_refl _) _))); generalize foldR 4 2 l = r at *; go_enter Tryz.func32, Tryz.ntmps32; go_wp2_with fail; refine K.out.mono ?_; rintro e w1 ⟨v, rfl, hv, hb1⟩; obtain ⟨x0, x1, x2, x3, x4, bl, n', cp, rfl⟩ := cells_re hv; obtain ⟨hn, h1, h2, h3⟩ := pass_re hv hb1; obtain ⟨g0, g1, g2, g3, g4, g5, p0, p1, p2, p3, p4, p5⟩ := cellsR hn; unfold putW at h1 h2 h3; have H1 := Lib.hid h1; have H2 := Lib.hid h2; have H3 := Lib.hid h3; clear hv hb1 hn h1 h2 h3; go_wp2; exact ret_re H1.out Tryz.results32 rfl rfl ⟨_, rfl, H2.out, H3.out⟩
theorem or_any {ok : Nat → Prop} (l : List Rx) (al : Option Addr) (cap : Nat) (w : World) (hlen : l.length < 2199023255552) (h : RowAt ok w al l) :
    Calls Tryz.prog 94 #[.slice al l.length cap] w (NewPost (foldR 5 1 l) w) := by
  have K := Lib.hid (chain_any 5 1 l al cap (w.alloc nilBlk) (by decide) (by decide) hlen (h.below ((Below.refl _ w).alloc (Nat.le_refl _) _))); generalize foldR 5 1 l = r at *; go_enter Tryz.func94, Tryz.ntmps94; go_wp2_with fail; refine K.out.mono ?_; rintro e w1 ⟨v, rfl, hv, hb1⟩; obtain ⟨x0, x1, x2, x3, x4, bl, n', cp, rfl⟩ := cells_re hv; obtain ⟨hn, h1, h2, h3⟩ := pass_re hv hb1; obtain ⟨g0, g1, g2, g3, g4, g5, p0, p1, p2, p3, p4, p5⟩ := cellsR hn; unfold putW at h1 h2 h3; have H1 := Lib.hid h1; have H2 := Lib.hid h2; have H3 := Lib.hid h3; clear hv hb1 hn h1 h2 h3; go_wp2; exact ret_re H1.out Tryz.results94 rfl rfl ⟨_, rfl, H2.out, H3.out⟩
end Go.Proofs.YthgghaaddankoaaGreatDoor
/- Lemmas of mine. -/
namespace Go.Proofs.YthgghaaddankoaaGreatDoor
def Ex.isEmp : Ex → Bool
  | .empty => true
  | _ => false
def Ex.isEps : Ex → Bool
  | .eps => true
  | _ => false
def Ex.isCls : Ex → Bool
  | .cls _ => true
  | _ => false
theorem isEmp_iff {e : Ex} : e.isEmp = true ↔ e = .empty := by cases e <;> simp [Ex.isEmp]
theorem isEps_iff {e : Ex} : e.isEps = true ↔ e = .eps := by cases e <;> simp [Ex.isEps]
def foldA : List Ex → Ex
  | [] => .empty
  | [r] => r
  | r :: r' :: rs => .alt r (foldA (r' :: rs))
theorem foldA_rx : ∀ l : List Ex, (foldA l).rx = foldR 5 1 (l.map Ex.rx)
  | [] => rfl
  | [_] => rfl
  | r :: r' :: rs => by
    have ih := foldA_rx (r' :: rs); simp only [foldA, Ex.rx, List.map_cons, foldR] at ih ⊢; rw [ih]
def insE (r : Ex) : List Ex → List Ex
  | [] => [r]
  | o :: l => if ordR r.rx o.rx < 0 then r :: o :: l else o :: insE r l
theorem insE_map (r : Ex) : ∀ l : List Ex, (insE r l).map Ex.rx = insR r.rx (l.map Ex.rx)
  | [] => rfl
  | o :: l => by
    simp only [insE, List.map_cons, insR]
    split
    · rfl
    · simp only [List.map_cons, insE_map r l]
def sortE (l : List Ex) : List Ex := l.foldl (fun m r => insE r m) []
theorem foldIns_map : ∀ (l m : List Ex), (l.foldl (fun m r => insE r m) m).map Ex.rx = (l.map Ex.rx).foldl (fun m r => insR r m) (m.map Ex.rx)
  | [], _ => rfl
  | r :: l, m => by
    simp only [List.foldl_cons, List.map_cons]; rw [foldIns_map l (insE r m), insE_map]
theorem sortE_map (l : List Ex) : (sortE l).map Ex.rx = sortR (l.map Ex.rx) := foldIns_map l []
def onceFromE : List Ex → List Ex → List Ex
  | out, [] => out
  | out, r :: l => if (out.map Ex.rx).any (fun o => sameR o r.rx) = true then onceFromE out l else onceFromE (out ++ [r]) l
theorem onceFromE_map : ∀ (l out : List Ex), (onceFromE out l).map Ex.rx = onceFrom (out.map Ex.rx) (l.map Ex.rx)
  | [], _ => rfl
  | r :: l, out => by
    simp only [onceFromE, List.map_cons, onceFrom]
    split
    · exact onceFromE_map l out
    · rw [onceFromE_map l (out ++ [r])]; simp
def canE (l : List Ex) : List Ex := onceFromE [] (sortE l)
theorem canE_map (l : List Ex) : (canE l).map Ex.rx = onceR (sortR (l.map Ex.rx)) := by
  unfold canE onceR; rw [onceFromE_map, sortE_map]
  rfl
theorem mem_rx {x : Ex} {l : List Ex} : x.rx ∈ l.map Ex.rx ↔ x ∈ l := by
  constructor
  · intro h; obtain ⟨y, hy, e⟩ := List.mem_map.1 h; rw [← Ex.rx_inj _ _ e]; exact hy
  · exact fun h => List.mem_map.2 ⟨x, h, rfl⟩
theorem canE_mem (l : List Ex) (x : Ex) : x ∈ canE l ↔ x ∈ l := by
  rw [← mem_rx, canE_map, onceR_mem, (sortR_perm _).mem_iff, mem_rx]
theorem nodup_rx {l : List Ex} (h : (l.map Ex.rx).Nodup) : l.Nodup := by
  unfold List.Nodup at *; rw [List.pairwise_map] at h; exact h.imp fun h e => h (by rw [e])
theorem canE_nodup (l : List Ex) : (canE l).Nodup := nodup_rx (by rw [canE_map]; exact onceR_nodup _)
theorem canE_order (l : List Ex) : InOrder ((canE l).map Ex.rx) := by rw [canE_map]; exact onceR_order (sortR_order _)
theorem map_rx_inj : ∀ {l m : List Ex}, l.map Ex.rx = m.map Ex.rx → l = m
  | [], [], _ => rfl
  | [], _ :: _, h => by simp at h
  | _ :: _, [], h => by simp at h
  | a :: l, b :: m, h => by
    simp only [List.map_cons, List.cons.injEq] at h; rw [Ex.rx_inj _ _ h.1, map_rx_inj h.2]
theorem canE_eq {l m : List Ex} (h1 : InOrder (l.map Ex.rx)) (h2 : l.Nodup) (h3 : ∀ x, x ∈ m ↔ x ∈ l) : canE m = l := by
  apply map_rx_inj
  refine inOrder_unique ?_ (canE_order m) h1; refine List.Perm.map _ ?_; rw [List.perm_ext_iff_of_nodup (canE_nodup m) h2]; intro x; rw [canE_mem, h3]
def flatE : Ex → List Ex
  | .empty => []
  | .alt a b => flatE a ++ flatE b
  | .eps => [.eps]
  | .cls s => [.cls s]
  | .seq a b => [.seq a b]
  | .star a => [.star a]
def clsS : Ex → Option Ws
  | .cls s => some s
  | _ => none
def setE (l : List Ex) : Ws := (l.filterMap clsS).foldl Ws.join Ws.nil
def restE (l : List Ex) : List Ex := l.filter fun x => !x.isCls
def gathE (l : List Ex) : List Ex := if setE l = Ws.nil then restE l else restE l ++ [.cls (setE l)]
def altE (l : List Ex) : Ex := foldA (canE (gathE (l.flatMap flatE)))
def mkS (a b : Ex) : Ex := if b.isEmp = true then .empty else if b.isEps = true then a else .seq a b
def seqE : Ex → Ex → Ex
  | .empty, _ => .empty
  | .eps, b => b
  | .cls s, b => mkS (.cls s) b
  | .alt x y, b => mkS (.alt x y) b
  | .star x, b => mkS (.star x) b
  | .seq c d, b => if b.isEmp = true then .empty else if b.isEps = true then .seq c d else seqE c (seqE d b)
def starE : Ex → Ex
  | .empty => .eps
  | .eps => .eps
  | .star a => .star a
  | .cls s => .star (.cls s)
  | .seq a b => .star (.seq a b)
  | .alt a b => .star (.alt a b)
def nfE : Ex → Ex
  | .empty => .empty
  | .eps => .eps
  | .cls s => .cls s
  | .seq a b => seqE (nfE a) (nfE b)
  | .alt a b => altE [nfE a, nfE b]
  | .star a => starE (nfE a)
end Go.Proofs.YthgghaaddankoaaGreatDoor
/- Lemmas of mine. -/
namespace Go.Proofs.YthgghaaddankoaaGreatDoor
def Item (x : Ex) : Prop := x.isEmp = false ∧ x.isAlt = false
def AltOk (l : List Ex) : Prop := (∀ x ∈ l, Item x) ∧ InOrder (l.map Ex.rx) ∧ l.Nodup ∧ ∀ s t, .cls s ∈ l → .cls t ∈ l → s = t
inductive NF : Ex → Prop
  | empty : NF .empty
  | eps : NF .eps
  | cls (s : Ws) : NF (.cls s)
  | seq (a b : Ex) : NF a → NF b → a.isEmp = false → a.isEps = false → a.isSeq = false → b.isEmp = false → b.isEps = false → NF (.seq a b)
  | star (a : Ex) : NF a → a.isEmp = false → a.isEps = false → a.isStar = false → NF (.star a)
  | alts (x y : Ex) (l : List Ex) : (∀ z ∈ x :: y :: l, NF z) → AltOk (x :: y :: l) → NF (foldA (x :: y :: l))
theorem flat_item {x : Ex} (h : Item x) : flatE x = [x] := by
  cases x <;> simp_all [Item, Ex.isEmp, Ex.isAlt, flatE]
theorem flat_fold : ∀ (l : List Ex), (∀ x ∈ l, Item x) → flatE (foldA l) = l
  | [], _ => rfl
  | [x], h => flat_item (h x (by simp))
  | x :: y :: l, h => by
    show flatE x ++ flatE (foldA (y :: l)) = _; rw [flat_item (h x (by simp)), flat_fold (y :: l) (fun z hz => h z (List.mem_cons_of_mem _ hz))]
    rfl
theorem fold_nf : ∀ (l : List Ex), (∀ z ∈ l, NF z) → AltOk l → NF (foldA l)
  | [], _, _ => .empty
  | [x], h, _ => h x (by simp)
  | x :: y :: l, h, ho => .alts x y l h ho
theorem altOk_one {x : Ex} (h : Item x) : AltOk [x] := by
  refine ⟨fun z hz => by simp at hz; subst hz; exact h, by simp [InOrder], by simp, fun s t hs ht => ?_⟩; simp at hs ht; rw [← hs] at ht; injection ht with ht; exact ht.symm
theorem NF.row {x : Ex} (h : NF x) : (∀ z ∈ flatE x, NF z) ∧ AltOk (flatE x) ∧ foldA (flatE x) = x := by
  cases h with
  | empty => exact ⟨fun z hz => by simp [flatE] at hz, ⟨fun z hz => by simp [flatE] at hz, by simp [InOrder, flatE], by simp [flatE], fun s t hs => by simp [flatE] at hs⟩, rfl⟩
  | eps => exact ⟨fun z hz => by simp [flatE] at hz; subst hz; exact .eps, altOk_one ⟨rfl, rfl⟩, rfl⟩
  | cls s => exact ⟨fun z hz => by simp [flatE] at hz; subst hz; exact .cls s, altOk_one ⟨rfl, rfl⟩, rfl⟩
  | seq a b h1 h2 h3 h4 h5 h6 h7 => exact ⟨fun z hz => by simp [flatE] at hz; subst hz; exact .seq a b h1 h2 h3 h4 h5 h6 h7, altOk_one ⟨rfl, rfl⟩, rfl⟩
  | star a h1 h2 h3 h4 => exact ⟨fun z hz => by simp [flatE] at hz; subst hz; exact .star a h1 h2 h3 h4, altOk_one ⟨rfl, rfl⟩, rfl⟩
  | alts x y l h1 h2 =>
    rw [flat_fold _ h2.1]; exact ⟨h1, h2, rfl⟩
theorem mem_rest {l : List Ex} {x : Ex} : x ∈ restE l ↔ x ∈ l ∧ x.isCls = false := by simp [restE]
theorem cls_mem {l : List Ex} {s : Ws} : s ∈ l.filterMap clsS ↔ .cls s ∈ l := by
  rw [List.mem_filterMap]
  constructor
  · rintro ⟨x, hx, e⟩
    cases x <;> simp [clsS] at e
    subst e; exact hx
  · exact fun h => ⟨_, h, rfl⟩
theorem foldJ_ok : ∀ (l : List Ws) (z : Ws), z.Ok → (∀ s ∈ l, s.Ok) → (l.foldl Ws.join z).Ok
  | [], z, hz, _ => hz
  | s :: l, z, hz, h => foldJ_ok l _ (Ws.join_ok hz (h s (by simp))) (fun t ht => h t (List.mem_cons_of_mem _ ht))
theorem foldJ_has : ∀ (l : List Ws) (z : Ws) (n : Nat), (l.foldl Ws.join z).has n = (z.has n || l.any fun s => s.has n)
  | [], z, n => by simp
  | s :: l, z, n => by
    simp only [List.foldl_cons, List.any_cons]; rw [foldJ_has l, Ws.has_join, Bool.or_assoc]
theorem setE_one {l : List Ex} {s : Ws} (hs : s.Ok) (h1 : .cls s ∈ l) (h2 : ∀ t, .cls t ∈ l → t = s) : setE l = s := by
  unfold setE; (have hok : ∀ t ∈ l.filterMap clsS, t.Ok := fun t ht => by rw [h2 t (cls_mem.1 ht)]; exact hs); refine Ws.has_ext (foldJ_ok _ _ Ws.nil_ok hok) hs fun n _ => ?_; rw [foldJ_has, Ws.has_nil, Bool.false_or]
  cases hh : s.has n with
  | true => exact List.any_eq_true.2 ⟨s, cls_mem.2 h1, hh⟩
  | false =>
    rw [List.any_eq_false]; intro t ht; rw [h2 t (cls_mem.1 ht), hh]; simp
theorem setE_none {l : List Ex} (h : ∀ t, .cls t ∉ l) : setE l = Ws.nil := by
  unfold setE
  have : l.filterMap clsS = [] := by
    rw [List.eq_nil_iff_forall_not_mem]; exact fun t ht => h t (cls_mem.1 ht)
  rw [this]
  rfl
def Ex.Wfs (l : List Ex) : Prop := ∀ x ∈ l, x.Wf
theorem gath_ok {l : List Ex} (h : ∀ x ∈ l, Item x) : AltOk (canE (gathE l)) := by
  have hm : ∀ x, x ∈ gathE l → (x ∈ l ∧ x.isCls = false) ∨ x = .cls (setE l) := by
    intro x hx; unfold gathE at hx
    split at hx
    · exact .inl (mem_rest.1 hx)
    · rcases List.mem_append.1 hx with hx | hx
      · exact .inl (mem_rest.1 hx)
      · simp at hx; exact .inr hx
  refine ⟨fun x hx => ?_, canE_order _, canE_nodup _, fun s t hs ht => ?_⟩
  · rcases hm x ((canE_mem _ _).1 hx) with hx | rfl
    · exact h x hx.1
    · exact ⟨rfl, rfl⟩
  · rcases hm _ ((canE_mem _ _).1 hs) with hs | hs
    · simp [Ex.isCls] at hs
    · rcases hm _ ((canE_mem _ _).1 ht) with ht | ht
      · simp [Ex.isCls] at ht
      · injection hs with hs; injection ht with ht; rw [hs, ht]
theorem gath_nf {l : List Ex} (h : ∀ x ∈ l, NF x) : ∀ x ∈ canE (gathE l), NF x := by
  intro x hx; have hx := (canE_mem _ _).1 hx; unfold gathE at hx
  split at hx
  · exact h x (mem_rest.1 hx).1
  · rcases List.mem_append.1 hx with hx | hx
    · exact h x (mem_rest.1 hx).1
    · simp at hx; subst hx; exact .cls _
theorem alt_nf {l : List Ex} (h : ∀ x ∈ l, NF x) : NF (altE l) := by
  have h1 : ∀ x ∈ l.flatMap flatE, Item x ∧ NF x := by
    intro x hx; obtain ⟨y, hy, hx⟩ := List.mem_flatMap.1 hx; have hr := (h y hy).row; exact ⟨hr.2.1.1 x hx, hr.1 x hx⟩
  exact fold_nf _ (gath_nf fun x hx => (h1 x hx).2) (gath_ok fun x hx => (h1 x hx).1)
theorem mkS_nf {a b : Ex} (ha : NF a) (hb : NF b) (h1 : a.isEmp = false) (h2 : a.isEps = false) (h3 : a.isSeq = false) : NF (mkS a b) := by
  unfold mkS
  split
  · exact .empty
  · split
    · exact ha
    · rename_i h4 h5
      exact .seq a b ha hb h1 h2 h3 (by simpa using h4) (by simpa using h5)
theorem mkS_seq {a b : Ex} (h1 : b.isEmp = false) (h2 : b.isEps = false) : mkS a b = .seq a b := by
  unfold mkS; rw [h1, h2]
  rfl
theorem seqE_plain {a b : Ex} (h1 : a.isEmp = false) (h2 : a.isEps = false) (h3 : a.isSeq = false) (h4 : b.isEmp = false) (h5 : b.isEps = false) : seqE a b = .seq a b := by
  cases a <;> simp_all [Ex.isEmp, Ex.isEps, Ex.isSeq, seqE, mkS]
theorem seqE_some : ∀ {a b : Ex}, NF a → a.isEmp = false → a.isEps = false → b.isEmp = false → b.isEps = false → (seqE a b).isEmp = false ∧ (seqE a b).isEps = false := by
  intro a b ha h1 h2 h4 h5
  cases ha with
  | empty => simp [Ex.isEmp] at h1
  | eps => simp [Ex.isEps] at h2
  | cls s => rw [seqE_plain rfl rfl rfl h4 h5]; exact ⟨rfl, rfl⟩
  | star a _ _ _ _ => rw [seqE_plain rfl rfl rfl h4 h5]; exact ⟨rfl, rfl⟩
  | alts x y l _ _ => rw [seqE_plain rfl rfl rfl h4 h5]; exact ⟨rfl, rfl⟩
  | seq c d hc hd c1 c2 c3 d1 d2 =>
    have ih := seqE_some (b := b) hd d1 d2 h4 h5; (have e : seqE (.seq c d) b = seqE c (seqE d b) := by simp only [seqE, h4, h5]; rfl); rw [e, seqE_plain c1 c2 c3 ih.1 ih.2]; exact ⟨rfl, rfl⟩
theorem seq_nf : ∀ {a b : Ex}, NF a → NF b → NF (seqE a b) := by
  intro a b ha hb
  cases ha with
  | empty => exact .empty
  | eps => exact hb
  | cls s => exact mkS_nf (.cls s) hb rfl rfl rfl
  | star a h1 h2 h3 h4 => exact mkS_nf (.star a h1 h2 h3 h4) hb rfl rfl rfl
  | alts x y l h1 h2 => exact mkS_nf (.alts x y l h1 h2) hb rfl rfl rfl
  | seq c d hc hd c1 c2 c3 d1 d2 =>
    cases h4 : b.isEmp with
    | true =>
      (have e : seqE (.seq c d) b = .empty := by simp only [seqE, h4]; rfl); rw [e]; exact .empty
    | false =>
      cases h5 : b.isEps with
      | true =>
        (have e : seqE (.seq c d) b = .seq c d := by simp only [seqE, h4, h5]; rfl); rw [e]; exact .seq c d hc hd c1 c2 c3 d1 d2
      | false =>
        (have e : seqE (.seq c d) b = seqE c (seqE d b) := by simp only [seqE, h4, h5]; rfl); have h6 := seqE_some (b := b) hd d1 d2 h4 h5; rw [e, seqE_plain c1 c2 c3 h6.1 h6.2]; exact .seq c _ hc (seq_nf hd hb) c1 c2 c3 h6.1 h6.2
theorem star_nf {a : Ex} (h : NF a) : NF (starE a) := by
  cases h with
  | empty => exact .eps
  | eps => exact .eps
  | cls s => exact .star _ (.cls s) rfl rfl rfl
  | star a h1 h2 h3 h4 => exact .star a h1 h2 h3 h4
  | seq a b h1 h2 h3 h4 h5 h6 h7 => exact .star _ (.seq a b h1 h2 h3 h4 h5 h6 h7) rfl rfl rfl
  | alts x y l h1 h2 => exact .star _ (.alts x y l h1 h2) rfl rfl rfl
theorem nf_nf : ∀ e : Ex, NF (nfE e)
  | .empty => .empty
  | .eps => .eps
  | .cls s => .cls s
  | .seq a b => seq_nf (nf_nf a) (nf_nf b)
  | .alt a b => alt_nf fun x hx => by
    simp at hx
    rcases hx with rfl | rfl
    · exact nf_nf a
    · exact nf_nf b
  | .star a => star_nf (nf_nf a)
theorem fold_wf : ∀ (l : List Ex), Ex.Wfs l ↔ (foldA l).Wf
  | [] => by simp [Ex.Wfs, foldA, Ex.Wf]
  | [x] => by simp [Ex.Wfs, foldA]
  | x :: y :: l => by
    have ih := fold_wf (y :: l); show _ ↔ x.Wf ∧ (foldA (y :: l)).Wf; rw [← ih]; simp [Ex.Wfs]
end Go.Proofs.YthgghaaddankoaaGreatDoor
/- Lemmas of mine. -/
namespace Go.Proofs.YthgghaaddankoaaGreatDoor
theorem flat_wf : ∀ (e : Ex), e.Wf → Ex.Wfs (flatE e)
  | .empty, _ => fun x hx => by simp [flatE] at hx
  | .eps, h => fun x hx => by simp [flatE] at hx; subst hx; exact h
  | .cls s, h => fun x hx => by simp [flatE] at hx; subst hx; exact h
  | .seq a b, h => fun x hx => by simp [flatE] at hx; subst hx; exact h
  | .star a, h => fun x hx => by simp [flatE] at hx; subst hx; exact h
  | .alt a b, h => fun x hx => by
    rcases List.mem_append.1 (show x ∈ flatE a ++ flatE b from hx) with hx | hx
    · exact flat_wf a h.1 x hx
    · exact flat_wf b h.2 x hx
theorem flats_wf {l : List Ex} (h : Ex.Wfs l) : Ex.Wfs (l.flatMap flatE) := fun x hx => by
  obtain ⟨y, hy, hx⟩ := List.mem_flatMap.1 hx; exact flat_wf y (h y hy) x hx
theorem setE_ok {l : List Ex} (h : Ex.Wfs l) : (setE l).Ok := foldJ_ok _ _ Ws.nil_ok fun _ hs => (h _ (cls_mem.1 hs)).1
theorem gath_wf {l : List Ex} (h : Ex.Wfs l) : Ex.Wfs (gathE l) := by
  intro x hx; unfold gathE at hx
  split at hx
  · exact h x (mem_rest.1 hx).1
  · rename_i hs
    rcases List.mem_append.1 hx with hx | hx
    · exact h x (mem_rest.1 hx).1
    · simp at hx; subst hx; exact ⟨setE_ok h, hs⟩
theorem altE_wf {l : List Ex} (h : Ex.Wfs l) : (altE l).Wf := (fold_wf _).1 fun x hx => gath_wf (flats_wf h) x ((canE_mem _ _).1 hx)
theorem mkS_wf {a b : Ex} (ha : a.Wf) (hb : b.Wf) : (mkS a b).Wf := by
  unfold mkS
  split
  · trivial
  · split
    · exact ha
    · exact ⟨ha, hb⟩
theorem seqE_wf : ∀ (a b : Ex), a.Wf → b.Wf → (seqE a b).Wf
  | .empty, _, _, _ => trivial
  | .eps, _, _, hb => hb
  | .cls s, b, ha, hb => mkS_wf (a := .cls s) ha hb
  | .alt x y, b, ha, hb => mkS_wf (a := .alt x y) ha hb
  | .star x, b, ha, hb => mkS_wf (a := .star x) ha hb
  | .seq c d, b, ha, hb => by
    simp only [seqE]
    split
    · trivial
    · split
      · exact ha
      · exact seqE_wf c _ ha.1 (seqE_wf d b ha.2 hb)
theorem starE_wf {a : Ex} (h : a.Wf) : (starE a).Wf := by cases a <;> exact h
theorem nf_wf : ∀ (e : Ex), e.Wf → (nfE e).Wf
  | .empty, _ => trivial
  | .eps, _ => trivial
  | .cls _, h => h
  | .seq a b, h => seqE_wf _ _ (nf_wf a h.1) (nf_wf b h.2)
  | .alt a b, h => altE_wf fun x hx => by
    simp at hx
    rcases hx with rfl | rfl
    · exact nf_wf a h.1
    · exact nf_wf b h.2
  | .star a, h => starE_wf (nf_wf a h)
def wt (l : List Ex) : Nat := (l.map fun x => x.size + 1).sum
theorem wt_cons (x : Ex) (l : List Ex) : wt (x :: l) = x.size + 1 + wt l := by simp [wt]
theorem wt_append (l m : List Ex) : wt (l ++ m) = wt l + wt m := by simp [wt]
theorem Ex.one_le (e : Ex) : 1 ≤ e.size := by cases e <;> simp only [Ex.size] <;> omega
theorem wt_flat : ∀ e : Ex, wt (flatE e) ≤ e.size + 1
  | .empty => by simp [flatE, wt]
  | .eps => by simp [flatE, wt, Ex.size]
  | .cls _ => by simp [flatE, wt, Ex.size]
  | .seq a b => by simp [flatE, wt, Ex.size]
  | .star a => by simp [flatE, wt, Ex.size]
  | .alt a b => by
    have h1 := wt_flat a; have h2 := wt_flat b; simp only [flatE, wt_append, Ex.size]; omega
theorem wt_rest (l : List Ex) : wt (restE l) + 2 * (l.filterMap clsS).length = wt l := by
  induction l with
  | nil => rfl
  | cons x l ih =>
    cases x <;> simp [restE, Ex.isCls, clsS, List.filterMap_cons, wt_cons, Ex.size] at ih ⊢ <;> omega
theorem wt_gath (l : List Ex) : wt (gathE l) ≤ wt l := by
  have h := wt_rest l; unfold gathE
  split
  · omega
  · rename_i hs
    have hne : l.filterMap clsS ≠ [] := by
      intro e
      apply hs
      unfold setE; rw [e]
      rfl
    have hlen : 1 ≤ (l.filterMap clsS).length := List.length_pos_iff.2 hne; rw [wt_append]; simp [wt, Ex.size] at h ⊢; omega
theorem wt_sub : ∀ {l m : List Ex}, l.Nodup → (∀ x ∈ l, x ∈ m) → wt l ≤ wt m
  | [], _, _, _ => by simp [wt]
  | x :: l, m, hn, hs => by
    obtain ⟨m1, m2, rfl⟩ := List.append_of_mem (hs x (by simp)); have hn' := List.nodup_cons.1 hn
    have h1 := wt_sub (l := l) (m := m1 ++ m2) hn'.2 fun y hy => by
      have h2 := hs y (List.mem_cons_of_mem _ hy)
      rcases List.mem_append.1 h2 with h2 | h2
      · exact List.mem_append.2 (.inl h2)
      · rcases List.mem_cons.1 h2 with h2 | h2
        · subst h2; exact absurd hy hn'.1
        · exact List.mem_append.2 (.inr h2)
    simp only [wt_cons, wt_append] at h1 ⊢; omega
theorem wt_can (l : List Ex) : wt (canE l) ≤ wt l := wt_sub (canE_nodup l) fun x hx => (canE_mem l x).1 hx
theorem fold_size : ∀ (l : List Ex), (foldA l).size + 1 ≤ max 2 (wt l)
  | [] => by simp [foldA, Ex.size, wt]
  | [x] => by simp [foldA, wt]; omega
  | x :: y :: l => by
    have ih := fold_size (y :: l); have h1 := y.one_le; (have h2 : wt (y :: l) ≥ 2 := by rw [wt_cons]; omega); simp only [foldA, Ex.size]; rw [wt_cons]; omega
theorem altE_size (a b : Ex) : (altE [a, b]).size ≤ (Ex.alt a b).size := by
  have h1 := fold_size (canE (gathE ([a, b].flatMap flatE))); have h2 := wt_can (gathE ([a, b].flatMap flatE)); have h3 := wt_gath ([a, b].flatMap flatE); (have h4 : wt ([a, b].flatMap flatE) = wt (flatE a) + wt (flatE b) := by simp [wt_append]); have h5 := wt_flat a; have h6 := wt_flat b; have h7 := a.one_le; unfold altE; simp only [Ex.size]; omega
theorem mkS_size (a b : Ex) : (mkS a b).size ≤ 1 + a.size + b.size := by
  unfold mkS
  split
  · simp [Ex.size]; omega
  · split
    · omega
    · simp [Ex.size]
theorem seqE_size : ∀ (a b : Ex), (seqE a b).size ≤ 1 + a.size + b.size
  | .empty, b => by simp [seqE, Ex.size]; omega
  | .eps, b => by simp [seqE, Ex.size]
  | .cls s, b => mkS_size _ _
  | .alt x y, b => mkS_size _ _
  | .star x, b => mkS_size _ _
  | .seq c d, b => by
    have h1 := seqE_size c (seqE d b); have h2 := seqE_size d b; simp only [seqE]
    split
    · simp [Ex.size]; omega
    · split
      · omega
      · simp only [Ex.size] at *; omega
theorem starE_size (a : Ex) : (starE a).size ≤ 1 + a.size := by cases a <;> simp [starE, Ex.size] <;> omega
theorem nf_size : ∀ e : Ex, (nfE e).size ≤ e.size
  | .empty => Nat.le_refl _
  | .eps => Nat.le_refl _
  | .cls _ => Nat.le_refl _
  | .seq a b => by
    have h1 := seqE_size (nfE a) (nfE b); have h2 := nf_size a; have h3 := nf_size b; simp only [nfE, Ex.size]; omega
  | .alt a b => by
    have h1 := altE_size (nfE a) (nfE b); have h2 := nf_size a; have h3 := nf_size b; simp only [nfE, Ex.size] at *; omega
  | .star a => by
    have h1 := starE_size (nfE a); have h2 := nf_size a; simp only [nfE, Ex.size]; omega
theorem Ws.join_nil (s : Ws) : s.join Ws.nil = s := by
  obtain ⟨a, b, c, d⟩ := s; simp [Ws.join, Ws.nil]
theorem Ws.join_assoc (s t u : Ws) : (s.join t).join u = s.join (t.join u) := by
  simp [Ws.join, Nat.or_assoc]
def sf (na fa fb : Bool) (sa sb : Ws) : Ws := if (fa && fb) = true then (if na = true then sa.join sb else sa) else Ws.nil
open Go.RowKit
theorem Ex.size_pos (e : Ex) : 0 < e.size := by cases e <;> simp only [Ex.size] <;> omega
theorem rx_form (e : Ex) : ∃ k s ks, e.rx = .node k s ks := by cases e <;> exact ⟨_, _, _, rfl⟩
open Go.RowKit
theorem node_sets {ok : Nat → Prop} {w : World} (N : Nat) : ∀ (r : Rx), r.size ≤ N → ∀ (b off : Nat), NodeAt ok w b off r → r.SetsOk := by
  induction N with
  | zero => intro r h; have := r.size_pos; omega
  | succ N ih =>
    rintro ⟨k, s, ks⟩ hN b off h; (have hN' : Rx.sizes ks ≤ N := by simp [Rx.size] at hN; omega); unfold NodeAt at h; obtain ⟨_, hs, _, al, cap, _, _, _, h3⟩ := h; unfold Rx.SetsOk; refine ⟨hs, fun r hr => ?_⟩
    rcases h3 with rfl | ⟨b', off', _, _, _, h4⟩
    · cases hr
    · obtain ⟨i, hi, rfl⟩ := List.getElem_of_mem hr; exact ih _ (Nat.le_trans (size_kid hi) hN') _ _ (nodesAt_get h4 i hi)
theorem ReAt.sets {ok : Nat → Prop} {w : World} {v : Value} {r : Rx} (h : ReAt ok w v r) : r.SetsOk := by
  obtain ⟨k, s, ks⟩ := r; obtain ⟨_, hs, al, cap, _, _, _, h3⟩ := h; unfold Rx.SetsOk; refine ⟨hs, fun r hr => ?_⟩
  rcases h3 with rfl | ⟨b', off', _, _, _, h4⟩
  · cases hr
  · obtain ⟨i, hi, rfl⟩ := List.getElem_of_mem hr; exact node_sets _ _ (Nat.le_refl _) _ _ (nodesAt_get h4 i hi)
theorem may_good {r : Rx} (h : mayR r = true) : goodR r = true ∧ r.size ≤ 2000 := by
  unfold mayR mayN at h
  simpa using h
theorem may_ex {ok : Nat → Prop} {w : World} {v : Value} {r : Rx} (h : ReAt ok w v r) (hm : mayR r = true) : ∃ e : Ex, e.rx = r ∧ e.Wf ∧ e.size ≤ 2000 := by
  have hg := may_good hm; obtain ⟨e, h1, h2⟩ := ex_of_good r.size r (Nat.le_refl _) hg.1 h.sets; exact ⟨e, h1, h2, by rw [← Ex.size_rx, h1]; exact hg.2⟩
open Go.RowKit
def manyW (w1 : World) (g : Nat) (x0 x1 x2 x3 x4 x5 : Value) : World :=
  (putW w1 g (.int .u8 6) (.int .u64 0) (.int .u64 0) (.int .u64 0) (.int .u64 0) (.slice (some ⟨w1.heap.size, 0, none⟩) 1 1)).alloc (.cells #[x0, x1, x2, x3, x4, x5] 39)
theorem many_step {n0 g : Nat} {w w1 : World} {x0 x1 x2 x3 x4 x5 : Value} {r : Rx} (hn0 : n0 ≤ g) (hlt : g < w1.heap.size) (hv : ReAt (Own n0 g) w1 (.agg #[x0, x1, x2, x3, x4, x5]) r) (hn : w1.heap[g]? = some nilBlk) (hb : Below n0 w w1) :
    (manyW w1 g x0 x1 x2 x3 x4 x5).heap[g]? = some (.cells #[.int .u8 6, .int .u64 0, .int .u64 0, .int .u64 0, .int .u64 0, .slice (some ⟨w1.heap.size, 0, none⟩) 1 1] 39) ∧
    ReAt (New n0) (manyW w1 g x0 x1 x2 x3 x4 x5) (.agg #[.int .u8 6, .int .u64 0, .int .u64 0, .int .u64 0, .int .u64 0, .slice (some ⟨w1.heap.size, 0, none⟩) 1 1]) (.node 6 Ws.nil [r]) ∧ Below n0 w (manyW w1 g x0 x1 x2 x3 x4 x5) := by
  have hsz := putW_size w1 g (.int .u8 6) (.int .u64 0) (.int .u64 0) (.int .u64 0) (.int .u64 0) (.slice (some ⟨w1.heap.size, 0, none⟩) 1 1); refine ⟨(Below.heap_alloc _ _ _ (by rw [hsz]; exact hlt)).trans (putR hn _ _ _ _ _ _), ⟨by decide, Ws.nil_ok, _, _, rfl, Nat.le_refl _, by simp, row_one (blk_at _ _ hsz.symm) ?_ ?_⟩, (putB hb hn0 _ _ _ _ _ _).alloc (by rw [hsz]; omega) _⟩
  · unfold New; omega
  · refine hv.go ⟨by unfold manyW; rw [World.size_alloc, hsz]; omega, fun b h1 h2 => ⟨?_, (Below.heap_alloc _ _ _ (by rw [hsz]; exact h1)).trans (putW_other _ _ _ _ _ _ _ _ h2.2)⟩⟩; unfold Own at h2; unfold New; omega
set_option maxHeartbeats 1000000 in
theorem manyX_any {ok : Nat → Prop} (r : Rx) (v : Value) (w : World) (h : ReAt ok w v r) :
    Calls Tryz.prog 100 #[v] w (NewPost (.node 6 Ws.nil [r]) w) := by
  obtain ⟨y0, y1, y2, y3, y4, yl, yn, yc, rfl⟩ := cells_re h; have KC := Lib.hid fun W (hb : Below w.heap.size w W) => cloneR r _ W (h.below hb); clear h; go_enter Tryz.func100, Tryz.ntmps100; go_wp2_with fail; refine (KC.out _ (((Below.refl _ w).alloc (Nat.le_refl _) _).alloc (by simp) _)).mono ?_; rintro e w1 ⟨v, rfl, hv, hb1⟩; obtain ⟨x0, x1, x2, x3, x4, bl, n', cp, rfl⟩ := cells_re hv; have hn : w1.heap[w.heap.size + 1]? = some nilBlk := (hb1.block _ (by simp)).trans (blk_at _ _ (by simp)); have hs := hb1.size; simp at hs; have hbw : Below w.heap.size w w1 := (((Below.refl _ w).alloc (Nat.le_refl _) _).alloc (by simp) _).trans (hb1.mono (by simp; omega)); obtain ⟨g0, g1, g2, g3, g4, g5, p0, p1, p2, p3, p4, p5⟩ := cellsR hn; (have hlt : w.heap.size + 1 < w1.heap.size := by omega)
  obtain ⟨s1, s2, s3⟩ := many_step (g := w.heap.size + 1) (n0 := w.heap.size) (r := r) (by omega) (by omega) (by
    refine hv.imp fun b _ h => ?_
    unfold New at h; simp at h; unfold Own; omega) hn hbw
  unfold manyW putW at s1 s2 s3; have HS1 := Lib.hid s1; have HS2 := Lib.hid s2; have HS3 := Lib.hid s3; clear hv hn hbw hb1 s1 s2 s3; go_wp2; exact ret_re HS1.out Tryz.results100 rfl rfl ⟨_, rfl, HS2.out, HS3.out⟩
end Go.Proofs.YthgghaaddankoaaGreatDoor
/- Lemmas of mine. -/
namespace Go.Proofs.YthgghaaddankoaaGreatDoor
inductive PR where
  | ok (e : Ex) (l : List UInt8)
  | bad (l : List UInt8)
inductive SR where
  | ok (b : Nat) (l : List UInt8)
  | bad (l : List UInt8)
def hexV (c : UInt8) : Option Nat := if 48 ≤ c.toNat ∧ c.toNat ≤ 57 then some (c.toNat - 48) else if 97 ≤ c.toNat ∧ c.toNat ≤ 102 then some (c.toNat - 87) else none
def ownB (c : UInt8) : Bool := !specB c.toNat
def sgn : List UInt8 → SR
  | [] => .bad []
  | c :: l => if c = 92 then
      (match l with
      | [] => .bad []
      | d :: l1 => match hexV d with
        | none => .bad (d :: l1)
        | some x => match l1 with
          | [] => .bad []
          | d' :: l2 => match hexV d' with
            | none => .bad (d' :: l2)
            | some y => .ok (16 * x + y) l2)
    else if ownB c = true then .ok c.toNat l else .bad (c :: l)
def NotAt (c : UInt8) (l : List UInt8) : Prop := ∀ t, l ≠ c :: t
def ofS (s : Ws) : Ex := if sameW s Ws.nil = true then .empty else .cls s
def rngW (lo hi : Nat) : Ws := ofN (List.range' lo (hi + 1 - lo))
inductive PCls : Ws → List UInt8 → PR → Prop
  | done (out : Ws) (l : List UInt8) : PCls out (93 :: l) (.ok (ofS out) l)
  | bad1 {out : Ws} {l r : List UInt8} : NotAt 93 l → sgn l = .bad r → PCls out l (.bad r)
  | one {out : Ws} {l : List UInt8} {b : Nat} {l1 : List UInt8} {res : PR} : NotAt 93 l → sgn l = .ok b l1 → NotAt 45 l1 → PCls (out.join (rngW b b)) l1 res → PCls out l res
  | bad2 {out : Ws} {l : List UInt8} {b : Nat} {l2 r : List UInt8} : NotAt 93 l → sgn l = .ok b (45 :: l2) → sgn l2 = .bad r → PCls out l (.bad r)
  | less {out : Ws} {l : List UInt8} {b : Nat} {l2 : List UInt8} {b' : Nat} {l3 : List UInt8} : NotAt 93 l → sgn l = .ok b (45 :: l2) → sgn l2 = .ok b' l3 → b' < b → PCls out l (.bad l2)
  | range {out : Ws} {l : List UInt8} {b : Nat} {l2 : List UInt8} {b' : Nat} {l3 : List UInt8} {res : PR} : NotAt 93 l → sgn l = .ok b (45 :: l2) → sgn l2 = .ok b' l3 → b ≤ b' → PCls (out.join (rngW b b')) l3 res → PCls out l res
def stars : Ex → List UInt8 → Ex × List UInt8
  | e, [] => (e, [])
  | e, c :: l => if c = 42 then stars (.star e) l else (e, c :: l)
def begB : List UInt8 → Bool
  | [] => false
  | c :: _ => decide (c = 46) || decide (c = 91) || decide (c = 40) || decide (c = 92) || ownB c
inductive Tg where
  | atom
  | row
  | alt
inductive PX : Tg → List UInt8 → PR → Prop
  | dot (l : List UInt8) : PX .atom (46 :: l) (.ok (.cls Ws.full) l)
  | cls {l : List UInt8} {res : PR} : PCls Ws.nil l res → PX .atom (91 :: l) res
  | eps (l : List UInt8) : PX .atom (40 :: 41 :: l) (.ok .eps l)
  | round {l : List UInt8} {e : Ex} {l1 : List UInt8} : NotAt 41 l → PX .alt l (.ok e (41 :: l1)) → PX .atom (40 :: l) (.ok e l1)
  | roundNo {l : List UInt8} {e : Ex} {l1 : List UInt8} : NotAt 41 l → PX .alt l (.ok e l1) → NotAt 41 l1 → PX .atom (40 :: l) (.bad l1)
  | roundBad {l r : List UInt8} : NotAt 41 l → PX .alt l (.bad r) → PX .atom (40 :: l) (.bad r)
  | sign {l : List UInt8} {b : Nat} {l1 : List UInt8} : NotAt 46 l → NotAt 91 l → NotAt 40 l → sgn l = .ok b l1 → PX .atom l (.ok (.cls (rngW b b)) l1)
  | signBad {l r : List UInt8} : NotAt 46 l → NotAt 91 l → NotAt 40 l → sgn l = .bad r → PX .atom l (.bad r)
  | rowBad {l r : List UInt8} : PX .atom l (.bad r) → PX .row l (.bad r)
  | rowOne {l : List UInt8} {a : Ex} {l1 : List UInt8} {e : Ex} {l2 : List UInt8} : PX .atom l (.ok a l1) → stars a l1 = (e, l2) → begB l2 = false → PX .row l (.ok e l2)
  | rowMore {l : List UInt8} {a : Ex} {l1 : List UInt8} {p : Ex} {l2 : List UInt8} {e : Ex} {l3 : List UInt8} : PX .atom l (.ok a l1) → stars a l1 = (p, l2) → begB l2 = true → PX .row l2 (.ok e l3) → PX .row l (.ok (.seq p e) l3)
  | rowMoreBad {l : List UInt8} {a : Ex} {l1 : List UInt8} {p : Ex} {l2 r : List UInt8} : PX .atom l (.ok a l1) → stars a l1 = (p, l2) → begB l2 = true → PX .row l2 (.bad r) → PX .row l (.bad r)
  | altBad {l r : List UInt8} : PX .row l (.bad r) → PX .alt l (.bad r)
  | altOne {l : List UInt8} {e : Ex} {l1 : List UInt8} : PX .row l (.ok e l1) → NotAt 124 l1 → PX .alt l (.ok e l1)
  | altMore {l : List UInt8} {e : Ex} {l1 : List UInt8} {f : Ex} {l2 : List UInt8} : PX .row l (.ok e (124 :: l1)) → PX .alt l1 (.ok f l2) → PX .alt l (.ok (.alt e f) l2)
  | altMoreBad {l : List UInt8} {e : Ex} {l1 r : List UInt8} : PX .row l (.ok e (124 :: l1)) → PX .alt l1 (.bad r) → PX .alt l (.bad r)
theorem PCls.det {out : Ws} {l : List UInt8} {r1 : PR} (h : PCls out l r1) : ∀ {r2 : PR}, PCls out l r2 → r1 = r2 := by
  induction h with
  | done out l => intro r2 h2; cases h2 with
    | done => rfl
    | bad1 h _ => exact absurd rfl (h _)
    | one h _ _ _ => exact absurd rfl (h _)
    | bad2 h _ _ => exact absurd rfl (h _)
    | less h _ _ _ => exact absurd rfl (h _)
    | range h _ _ _ _ => exact absurd rfl (h _)
  | bad1 h1 h2 => intro r2 h; cases h with
    | done => exact absurd rfl (h1 _)
    | bad1 _ k => simp_all
    | one _ k _ _ => simp_all
    | bad2 _ k _ => simp_all
    | less _ k _ _ => simp_all
    | range _ k _ _ _ => simp_all
  | one h1 h2 h3 _ ih => intro r2 h; cases h with
    | done => exact absurd rfl (h1 _)
    | bad1 _ k => simp_all
    | one _ k _ q => rw [h2] at k; cases k; exact ih q
    | bad2 _ k _ => rw [h2] at k; cases k; exact absurd rfl (h3 _)
    | less _ k _ _ => rw [h2] at k; cases k; exact absurd rfl (h3 _)
    | range _ k _ _ _ => rw [h2] at k; cases k; exact absurd rfl (h3 _)
  | bad2 h1 h2 h3 => intro r2 h; cases h with
    | done => exact absurd rfl (h1 _)
    | bad1 _ k => simp_all
    | one _ k q _ => rw [h2] at k; cases k; exact absurd rfl (q _)
    | bad2 _ k q => rw [h2] at k; cases k; rw [h3] at q; cases q; rfl
    | less _ k q _ => rw [h2] at k; cases k; rw [h3] at q; cases q
    | range _ k q _ _ => rw [h2] at k; cases k; rw [h3] at q; cases q
  | less h1 h2 h3 h4 => intro r2 h; cases h with
    | done => exact absurd rfl (h1 _)
    | bad1 _ k => simp_all
    | one _ k q _ => rw [h2] at k; cases k; exact absurd rfl (q _)
    | bad2 _ k q => rw [h2] at k; cases k; rw [h3] at q; cases q
    | less _ k q _ => rw [h2] at k; cases k; rfl
    | range _ k q u _ => rw [h2] at k; cases k; rw [h3] at q; cases q; omega
  | range h1 h2 h3 h4 _ ih => intro r2 h; cases h with
    | done => exact absurd rfl (h1 _)
    | bad1 _ k => simp_all
    | one _ k q _ => rw [h2] at k; cases k; exact absurd rfl (q _)
    | bad2 _ k q => rw [h2] at k; cases k; rw [h3] at q; cases q
    | less _ k q u => rw [h2] at k; cases k; rw [h3] at q; cases q; omega
    | range _ k q u z => rw [h2] at k; cases k; rw [h3] at q; cases q; exact ih z
theorem sgn_41 (l : List UInt8) : sgn (41 :: l) = .bad (41 :: l) := by unfold sgn; simp; decide
theorem PX.det {t : Tg} {l : List UInt8} {r1 : PR} (h : PX t l r1) : ∀ {r2 : PR}, PX t l r2 → r1 = r2 := by
  induction h with
  | dot l => intro r2 h; cases h with
    | dot => rfl
    | sign k _ _ _ => exact absurd rfl (k _)
    | signBad k _ _ _ => exact absurd rfl (k _)
  | cls hc => intro r2 h; cases h with
    | cls k => exact hc.det k
    | sign _ k _ _ => exact absurd rfl (k _)
    | signBad _ k _ _ => exact absurd rfl (k _)
  | eps l => intro r2 h; cases h with
    | eps => rfl
    | round k _ => exact absurd rfl (k _)
    | roundNo k _ _ => exact absurd rfl (k _)
    | roundBad k _ => exact absurd rfl (k _)
    | sign _ _ k _ => exact absurd rfl (k _)
    | signBad _ _ k _ => exact absurd rfl (k _)
  | round h1 _ ih => intro r2 h; cases h with
    | eps => exact absurd rfl (h1 _)
    | round _ k => cases ih k; rfl
    | roundNo _ k q => cases ih k; exact absurd rfl (q _)
    | roundBad _ k => cases ih k
    | sign _ _ k _ => exact absurd rfl (k _)
    | signBad _ _ k _ => exact absurd rfl (k _)
  | roundNo h1 _ h3 ih => intro r2 h; cases h with
    | eps => exact absurd rfl (h1 _)
    | round _ k => cases ih k; exact absurd rfl (h3 _)
    | roundNo _ k q => cases ih k; rfl
    | roundBad _ k => cases ih k
    | sign _ _ k _ => exact absurd rfl (k _)
    | signBad _ _ k _ => exact absurd rfl (k _)
  | roundBad h1 _ ih => intro r2 h; cases h with
    | eps => exact absurd rfl (h1 _)
    | round _ k => cases ih k
    | roundNo _ k q => cases ih k
    | roundBad _ k => cases ih k; rfl
    | sign _ _ k _ => exact absurd rfl (k _)
    | signBad _ _ k _ => exact absurd rfl (k _)
  | sign h1 h2 h3 h4 => intro r2 h; cases h with
    | dot => exact absurd rfl (h1 _)
    | cls => exact absurd rfl (h2 _)
    | eps => exact absurd rfl (h3 _)
    | round => exact absurd rfl (h3 _)
    | roundNo => exact absurd rfl (h3 _)
    | roundBad => exact absurd rfl (h3 _)
    | sign _ _ _ k => rw [h4] at k; cases k; rfl
    | signBad _ _ _ k => rw [h4] at k; cases k
  | signBad h1 h2 h3 h4 => intro r2 h; cases h with
    | dot => exact absurd rfl (h1 _)
    | cls => exact absurd rfl (h2 _)
    | eps => exact absurd rfl (h3 _)
    | round => exact absurd rfl (h3 _)
    | roundNo => exact absurd rfl (h3 _)
    | roundBad => exact absurd rfl (h3 _)
    | sign _ _ _ k => rw [h4] at k; cases k
    | signBad _ _ _ k => rw [h4] at k; cases k; rfl
  | rowBad _ ih => intro r2 h; cases h with
    | rowBad k => cases ih k; rfl
    | rowOne k _ _ => cases ih k
    | rowMore k _ _ _ => cases ih k
    | rowMoreBad k _ _ _ => cases ih k
  | rowOne _ h2 h3 ih => intro r2 h; cases h with
    | rowBad k => cases ih k
    | rowOne k q _ => cases ih k; rw [h2] at q; cases q; rfl
    | rowMore k q u _ => cases ih k; rw [h2] at q; cases q; rw [h3] at u; cases u
    | rowMoreBad k q u _ => cases ih k; rw [h2] at q; cases q; rw [h3] at u; cases u
  | rowMore _ h2 h3 _ ih ih2 => intro r2 h; cases h with
    | rowBad k => cases ih k
    | rowOne k q u => cases ih k; rw [h2] at q; cases q; rw [h3] at u; cases u
    | rowMore k q _ z => cases ih k; rw [h2] at q; cases q; cases ih2 z; rfl
    | rowMoreBad k q _ z => cases ih k; rw [h2] at q; cases q; cases ih2 z
  | rowMoreBad _ h2 h3 _ ih ih2 => intro r2 h; cases h with
    | rowBad k => cases ih k
    | rowOne k q u => cases ih k; rw [h2] at q; cases q; rw [h3] at u; cases u
    | rowMore k q _ z => cases ih k; rw [h2] at q; cases q; cases ih2 z
    | rowMoreBad k q _ z => cases ih k; rw [h2] at q; cases q; cases ih2 z; rfl
  | altBad _ ih => intro r2 h; cases h with
    | altBad k => cases ih k; rfl
    | altOne k _ => cases ih k
    | altMore k _ => cases ih k
    | altMoreBad k _ => cases ih k
  | altOne _ h2 ih => intro r2 h; cases h with
    | altBad k => cases ih k
    | altOne k _ => cases ih k; rfl
    | altMore k _ => cases ih k; exact absurd rfl (h2 _)
    | altMoreBad k _ => cases ih k; exact absurd rfl (h2 _)
  | altMore _ _ ih ih2 => intro r2 h; cases h with
    | altBad k => cases ih k
    | altOne k q => cases ih k; exact absurd rfl (q _)
    | altMore k z => cases ih k; cases ih2 z; rfl
    | altMoreBad k z => cases ih k; cases ih2 z
  | altMoreBad _ _ ih ih2 => intro r2 h; cases h with
    | altBad k => cases ih k
    | altOne k q => cases ih k; exact absurd rfl (q _)
    | altMore k z => cases ih k; cases ih2 z
    | altMoreBad k z => cases ih k; cases ih2 z; rfl
end Go.Proofs.YthgghaaddankoaaGreatDoor
/- Lemmas of mine. -/
namespace Go.Proofs.YthgghaaddankoaaGreatDoor
theorem hexV_lt {c : UInt8} {x : Nat} (h : hexV c = some x) : x < 16 := by
  unfold hexV at h
  split at h
  · cases h; omega
  · split at h
    · cases h; omega
    · cases h
def SFact (l : List UInt8) : SR → Prop
  | .ok b l1 => b < 256 ∧ l1 <:+ l ∧ l1.length < l.length
  | .bad r => r <:+ l
theorem sgn_own (c : UInt8) (l : List UInt8) (h : c ≠ 92) : sgn (c :: l) = if ownB c = true then .ok c.toNat l else .bad (c :: l) := by
  simp only [sgn, if_neg h]
theorem sgn_92_nil : sgn [92] = .bad [] := rfl
theorem sgn_92_no {d : UInt8} (l : List UInt8) (h : hexV d = none) : sgn (92 :: d :: l) = .bad (d :: l) := by
  simp only [sgn, if_true, h]
theorem sgn_92_one {d : UInt8} {x : Nat} (h : hexV d = some x) : sgn [92, d] = .bad [] := by
  simp only [sgn, if_true, h]
theorem sgn_92_two {d d' : UInt8} {x : Nat} (l : List UInt8) (h : hexV d = some x) (h' : hexV d' = none) : sgn (92 :: d :: d' :: l) = .bad (d' :: l) := by
  simp only [sgn, if_true, h, h']
theorem sgn_92_yes {d d' : UInt8} {x y : Nat} (l : List UInt8) (h : hexV d = some x) (h' : hexV d' = some y) : sgn (92 :: d :: d' :: l) = .ok (16 * x + y) l := by
  simp only [sgn, if_true, h, h']
theorem sgn_fact (l : List UInt8) : SFact l (sgn l) := by
  match l with
  | [] => exact List.suffix_refl _
  | c :: l =>
    by_cases hc : c = 92
    · subst hc
      match l with
      | [] => rw [sgn_92_nil]; exact List.nil_suffix
      | [d] =>
        cases h1 : hexV d with
        | none => rw [sgn_92_no _ h1]; exact List.suffix_cons _ _
        | some x => rw [sgn_92_one h1]; exact List.nil_suffix
      | d :: d' :: l2 =>
        cases h1 : hexV d with
        | none => rw [sgn_92_no _ h1]; exact List.suffix_cons _ _
        | some x =>
          cases h2 : hexV d' with
          | none => rw [sgn_92_two _ h1 h2]; exact ⟨[92, d], rfl⟩
          | some y =>
            have a1 := hexV_lt h1; have a2 := hexV_lt h2; rw [sgn_92_yes _ h1 h2]; exact ⟨by omega, ⟨[92, d, d'], rfl⟩, by simp only [List.length_cons]; omega⟩
    · rw [sgn_own c l hc]
      by_cases ho : ownB c = true
      · rw [if_pos ho]; exact ⟨c.toNat_lt, List.suffix_cons _ _, by simp⟩
      · rw [if_neg ho]; exact List.suffix_refl _
theorem sgn_ok {l l1 : List UInt8} {b : Nat} (h : sgn l = .ok b l1) : b < 256 ∧ l1 <:+ l ∧ l1.length < l.length := by
  have := sgn_fact l; rw [h] at this; exact this
theorem sgn_bad {l r : List UInt8} (h : sgn l = .bad r) : r <:+ l := by
  have := sgn_fact l; rw [h] at this; exact this
theorem rng_ok (a b : Nat) : (rngW a b).Ok := ofN_ok _
theorem rng_ne {b : Nat} (h : b < 256) : rngW b b ≠ Ws.nil := by
  intro e
  have h1 : (rngW b b).has b = true := by
    unfold rngW; rw [has_ofN _ (by intro x hx; simp at hx; omega) b h]; simp
  rw [e, Ws.has_nil] at h1
  cases h1
theorem ofS_wf {s : Ws} (h : s.Ok) : (ofS s).Wf ∧ (ofS s).size = 1 := by
  unfold ofS
  split
  · exact ⟨trivial, rfl⟩
  · rename_i hn
    exact ⟨⟨h, fun e => hn (sameW_iff.2 e)⟩, rfl⟩
def Fact (l : List UInt8) : PR → Prop
  | .ok e l1 => e.Wf ∧ l1 <:+ l ∧ l1.length < l.length ∧ e.size + 1 ≤ 2 * (l.length - l1.length)
  | .bad r => r <:+ l
theorem PCls.fact {out : Ws} {l : List UInt8} {r : PR} (h : PCls out l r) : out.Ok → Fact l r := by
  induction h with
  | done out l => exact fun ho => ⟨(ofS_wf ho).1, List.suffix_cons _ _, by simp, by rw [(ofS_wf ho).2]; simp only [List.length_cons]; omega⟩
  | bad1 _ h2 => exact fun _ => sgn_bad h2
  | @one out l b l1 res _ h2 _ _ ih =>
    intro ho; obtain ⟨_, s1, s2⟩ := sgn_ok h2; have k := ih (Ws.join_ok ho (rng_ok _ _))
    cases res with
    | ok e l' => exact ⟨k.1, k.2.1.trans s1, by have := k.2.2.1; omega, by have := k.2.2.2; omega⟩
    | bad r => exact List.IsSuffix.trans k s1
  | bad2 _ h2 h3 =>
    intro _; obtain ⟨_, s1, _⟩ := sgn_ok h2; exact (sgn_bad h3).trans ((List.suffix_cons _ _).trans s1)
  | less _ h2 _ _ =>
    intro _; obtain ⟨_, s1, _⟩ := sgn_ok h2; exact (List.suffix_cons _ _).trans s1
  | @range out l b l2 b' l3 res _ h2 h3 _ _ ih =>
    intro ho; obtain ⟨_, s1, s2⟩ := sgn_ok h2; obtain ⟨_, t1, t2⟩ := sgn_ok h3; have k := ih (Ws.join_ok ho (rng_ok _ _)); have q := t1.trans ((List.suffix_cons _ _).trans s1); simp only [List.length_cons] at s2
    cases res with
    | ok e l' => exact ⟨k.1, k.2.1.trans q, by have := k.2.2.1; omega, by have := k.2.2.2; omega⟩
    | bad r => exact List.IsSuffix.trans k q
theorem stars_fact : ∀ (l : List UInt8) (a e : Ex) (l' : List UInt8), stars a l = (e, l') → l' <:+ l ∧ (a.Wf → e.Wf) ∧ e.size = a.size + (l.length - l'.length)
  | [], a, e, l', h => by
    simp only [stars, Prod.mk.injEq] at h; obtain ⟨rfl, rfl⟩ := h; exact ⟨List.suffix_refl _, id, by simp⟩
  | c :: l, a, e, l', h => by
    unfold stars at h
    split at h
    · obtain ⟨h1, h2, h3⟩ := stars_fact l _ e l' h; refine ⟨h1.trans (List.suffix_cons _ _), h2, ?_⟩; have := h1.length_le; rw [h3]; simp only [Ex.size, List.length_cons]; omega
    · simp only [Prod.mk.injEq] at h; obtain ⟨rfl, rfl⟩ := h; exact ⟨List.suffix_refl _, id, by simp⟩
theorem full_ne : Ws.full ≠ Ws.nil := by simp [Ws.full, Ws.nil]
theorem PX.fact {t : Tg} {l : List UInt8} {r : PR} (h : PX t l r) : Fact l r := by
  induction h with
  | dot l => exact ⟨⟨Ws.full_ok, full_ne⟩, List.suffix_cons _ _, by simp, by simp only [Ex.size, List.length_cons]; omega⟩
  | @cls l res hc =>
    have k := hc.fact Ws.nil_ok
    cases res with
    | ok e l' => exact ⟨k.1, k.2.1.trans (List.suffix_cons _ _), by have := k.2.2.1; simp only [List.length_cons]; omega, by have := k.2.2.2; simp only [List.length_cons]; omega⟩
    | bad r => exact List.IsSuffix.trans k (List.suffix_cons _ _)
  | eps l => exact ⟨trivial, ⟨[40, 41], rfl⟩, by simp only [List.length_cons]; omega, by simp only [Ex.size, List.length_cons]; omega⟩
  | round _ _ ih =>
    obtain ⟨k1, k2, k3, k4⟩ := ih; simp only [List.length_cons] at k3 k4; exact ⟨k1, (List.suffix_cons _ _).trans (k2.trans (List.suffix_cons _ _)), by simp only [List.length_cons]; omega, by simp only [List.length_cons]; omega⟩
  | roundNo _ _ _ ih => exact ih.2.1.trans (List.suffix_cons _ _)
  | roundBad _ _ ih => exact List.IsSuffix.trans ih (List.suffix_cons _ _)
  | sign _ _ _ h4 =>
    obtain ⟨s0, s1, s2⟩ := sgn_ok h4; exact ⟨⟨rng_ok _ _, rng_ne s0⟩, s1, s2, by simp only [Ex.size]; omega⟩
  | signBad _ _ _ h4 => exact sgn_bad h4
  | rowBad _ ih => exact ih
  | rowOne _ h2 _ ih =>
    obtain ⟨k1, k2, k3, k4⟩ := ih; obtain ⟨s1, s2, s3⟩ := stars_fact _ _ _ _ h2; have := s1.length_le; exact ⟨s2 k1, s1.trans k2, by omega, by omega⟩
  | rowMore _ h2 _ _ ih ih2 =>
    obtain ⟨k1, k2, k3, k4⟩ := ih; obtain ⟨s1, s2, s3⟩ := stars_fact _ _ _ _ h2; obtain ⟨q1, q2, q3, q4⟩ := ih2; have := s1.length_le; exact ⟨⟨s2 k1, q1⟩, q2.trans (s1.trans k2), by omega, by simp only [Ex.size]; omega⟩
  | rowMoreBad _ h2 _ _ ih ih2 =>
    obtain ⟨k1, k2, k3, k4⟩ := ih; obtain ⟨s1, s2, s3⟩ := stars_fact _ _ _ _ h2; exact List.IsSuffix.trans ih2 (s1.trans k2)
  | altBad _ ih => exact ih
  | altOne _ _ ih => exact ih
  | altMore _ _ ih ih2 =>
    obtain ⟨k1, k2, k3, k4⟩ := ih; obtain ⟨q1, q2, q3, q4⟩ := ih2; simp only [List.length_cons] at k3 k4; exact ⟨⟨k1, q1⟩, q2.trans ((List.suffix_cons _ _).trans k2), by omega, by simp only [Ex.size]; omega⟩
  | altMoreBad _ _ ih ih2 => exact List.IsSuffix.trans ih2 ((List.suffix_cons _ _).trans ih.2.1)
end Go.Proofs.YthgghaaddankoaaGreatDoor
/- Lemmas of mine. -/
namespace Go.Proofs.YthgghaaddankoaaGreatDoor
def tl (s : ByteArray) (i : Nat) : List UInt8 := s.data.toList.drop i
theorem tl_cons (s : ByteArray) (i : Nat) (h : i < s.size) : tl s i = s[i] :: tl s (i + 1) := by
  unfold tl; (have h' : i < s.data.toList.length := by simpa using h); rw [List.drop_eq_getElem_cons h']
  rfl
theorem tl_nil (s : ByteArray) (i : Nat) (h : s.size ≤ i) : tl s i = [] := List.drop_eq_nil_of_le (by simpa using h)
theorem tl_len (s : ByteArray) (i : Nat) : (tl s i).length = s.size - i := by
  unfold tl; rw [List.length_drop]; simp
theorem tl_suffix {s : ByteArray} {i : Nat} {l : List UInt8} (h : l <:+ tl s i) : l = tl s (s.size - l.length) ∧ l.length ≤ s.size := by
  have h1 : l <:+ s.data.toList := h.trans (List.drop_suffix _ _); (have h2 : s.data.toList.length = s.size := by simp); have h3 := h1.length_le; rw [h2] at h3; refine ⟨?_, h3⟩; unfold tl; rw [List.suffix_iff_eq_drop.1 h1, h2]; rw [List.length_drop, h2]
  congr 1
  omega
end Go.Proofs.YthgghaaddankoaaGreatDoor
/- Lemmas of mine. -/
namespace Go.Proofs.YthgghaaddankoaaGreatDoor
theorem notAt_or (c : UInt8) (l : List UInt8) : NotAt c l ∨ ∃ t, l = c :: t := by
  cases l with
  | nil => exact .inl (fun t e => by cases e)
  | cons d t =>
    by_cases h : d = c
    · exact .inr ⟨t, by rw [h]⟩
    · exact .inl (fun u e => by simp at e; exact h e.1)
theorem PCls.total : ∀ (n : Nat) (out : Ws) (l : List UInt8), l.length ≤ n → ∃ r, PCls out l r
  | n, out, l, hn => by
    rcases notAt_or 93 l with h93 | ⟨t, rfl⟩
    · cases hs : sgn l with
      | bad r => exact ⟨_, .bad1 h93 hs⟩
      | ok b l1 =>
        have h1 := (sgn_ok hs).2.2
        match n, hn with
        | 0, hn => omega
        | n + 1, hn =>
          rcases notAt_or 45 l1 with h45 | ⟨l2, rfl⟩
          · obtain ⟨r, hr⟩ := PCls.total n (out.join (rngW b b)) l1 (by omega); exact ⟨r, .one h93 hs h45 hr⟩
          · cases hs2 : sgn l2 with
            | bad r => exact ⟨_, .bad2 h93 hs hs2⟩
            | ok b' l3 =>
              have h2 := (sgn_ok hs2).2.2; simp only [List.length_cons] at h1
              by_cases hb : b' < b
              · exact ⟨_, .less h93 hs hs2 hb⟩
              · obtain ⟨r, hr⟩ := PCls.total n (out.join (rngW b b')) l3 (by omega); exact ⟨r, .range h93 hs hs2 (by omega) hr⟩
    · exact ⟨_, .done out t⟩
theorem PX.total : ∀ (n : Nat) (l : List UInt8), l.length ≤ n → (∃ r, PX .atom l r) ∧ (∃ r, PX .row l r) ∧ ∃ r, PX .alt l r
  | n, l, hn => by
    have hA : ∃ r, PX .atom l r := by
      rcases notAt_or 46 l with h46 | ⟨t, rfl⟩
      · rcases notAt_or 91 l with h91 | ⟨t, rfl⟩
        · rcases notAt_or 40 l with h40 | ⟨t, rfl⟩
          · cases hs : sgn l with
            | bad r => exact ⟨_, .signBad h46 h91 h40 hs⟩
            | ok b l1 => exact ⟨_, .sign h46 h91 h40 hs⟩
          · rcases notAt_or 41 t with h41 | ⟨u, rfl⟩
            · match n, hn with
              | 0, hn => simp at hn
              | n + 1, hn =>
                obtain ⟨r, hr⟩ := (PX.total n t (by simpa using hn)).2.2
                cases r with
                | bad r => exact ⟨_, .roundBad h41 hr⟩
                | ok e l1 =>
                  rcases notAt_or 41 l1 with k | ⟨u, rfl⟩
                  · exact ⟨_, .roundNo h41 hr k⟩
                  · exact ⟨_, .round h41 hr⟩
            · exact ⟨_, .eps u⟩
        · obtain ⟨r, hr⟩ := PCls.total _ Ws.nil t (Nat.le_refl _); exact ⟨r, .cls hr⟩
      · exact ⟨_, .dot t⟩
    have hR : ∃ r, PX .row l r := by
      obtain ⟨r, hr⟩ := hA
      cases r with
      | bad r => exact ⟨_, .rowBad hr⟩
      | ok a l1 =>
        have f := hr.fact
        cases hs : stars a l1 with
        | mk p l2 =>
          have hs' := (stars_fact _ _ _ _ hs).1.length_le
          cases hb : begB l2 with
          | false => exact ⟨_, .rowOne hr hs hb⟩
          | true =>
            match n, hn with
            | 0, hn => have := f.2.2.1; omega
            | n + 1, hn =>
              obtain ⟨q, hq⟩ := (PX.total n l2 (by have := f.2.2.1; omega)).2.1
              cases q with
              | bad r => exact ⟨_, .rowMoreBad hr hs hb hq⟩
              | ok e l3 => exact ⟨_, .rowMore hr hs hb hq⟩
    refine ⟨hA, hR, ?_⟩; obtain ⟨r, hr⟩ := hR
    cases r with
    | bad r => exact ⟨_, .altBad hr⟩
    | ok e l1 =>
      have f := hr.fact
      rcases notAt_or 124 l1 with h | ⟨t, rfl⟩
      · exact ⟨_, .altOne hr h⟩
      · match n, hn with
        | 0, hn => have := f.2.2.1; omega
        | n + 1, hn =>
          obtain ⟨q, hq⟩ := (PX.total n t (by have := f.2.2.1; simp only [List.length_cons] at this; omega)).2.2
          cases q with
          | bad r => exact ⟨_, .altMoreBad hr hq⟩
          | ok g l3 => exact ⟨_, .altMore hr hq⟩
end Go.Proofs.YthgghaaddankoaaGreatDoor
/- Lemmas of mine. -/
namespace Go.Proofs.YthgghaaddankoaaGreatDoor
def foldE (f : Ex → Ex → Ex) : List Ex → Ex
  | [] => .eps
  | [e] => e
  | e :: e' :: l => f e (foldE f (e' :: l))
theorem foldE_snoc (f : Ex → Ex → Ex) : ∀ (ps : List Ex) (p e : Ex), foldE f (ps ++ [p] ++ [e]) = foldE f (ps ++ [f p e])
  | [], p, e => rfl
  | [q], p, e => rfl
  | q :: q' :: ps, p, e => by
    have ih := foldE_snoc f (q' :: ps) p e; show f q (foldE f (q' :: ps ++ [p] ++ [e])) = f q (foldE f (q' :: ps ++ [f p e])); rw [ih]
def RowSt (l0 : List UInt8) (ps : List Ex) (l : List UInt8) : Prop :=
  ((ps = [] ∨ begB l = true) → (∀ e l', PX .row l (.ok e l') → PX .row l0 (.ok (foldE .seq (ps ++ [e])) l')) ∧ (∀ r, PX .row l (.bad r) → PX .row l0 (.bad r))) ∧
  (ps ≠ [] → begB l = false → PX .row l0 (.ok (foldE .seq ps) l))
theorem RowSt.start (l : List UInt8) : RowSt l [] l := ⟨fun _ => ⟨fun _ _ h => h, fun _ h => h⟩, fun h => absurd rfl h⟩
theorem RowSt.step {l0 l l1 l2 : List UInt8} {ps : List Ex} {a p : Ex} (h : RowSt l0 ps l) (hc : ps = [] ∨ begB l = true) (ha : PX .atom l (.ok a l1)) (hs : stars a l1 = (p, l2)) : RowSt l0 (ps ++ [p]) l2 := by
  obtain ⟨h1, h2⟩ := h.1 hc; refine ⟨fun hc2 => ?_, fun _ hb => h1 _ _ (PX.rowOne ha hs hb)⟩
  have hb : begB l2 = true := by
    rcases hc2 with e | e
    · simp at e
    · exact e
  refine ⟨fun e l' he => ?_, fun r hr => h2 _ (PX.rowMoreBad ha hs hb hr)⟩; rw [foldE_snoc]; exact h1 _ _ (PX.rowMore ha hs hb he)
theorem RowSt.bad {l0 l r : List UInt8} {ps : List Ex} (h : RowSt l0 ps l) (hc : ps = [] ∨ begB l = true) (ha : PX .atom l (.bad r)) : PX .row l0 (.bad r) := (h.1 hc).2 _ (PX.rowBad ha)
def AltSt (l0 : List UInt8) (ps : List Ex) (l : List UInt8) : Prop :=
  (∀ e l', PX .alt l (.ok e l') → PX .alt l0 (.ok (foldE .alt (ps ++ [e])) l')) ∧ (∀ r, PX .alt l (.bad r) → PX .alt l0 (.bad r))
theorem AltSt.start (l : List UInt8) : AltSt l [] l := ⟨fun _ _ h => h, fun _ h => h⟩
theorem AltSt.step {l0 l l1 : List UInt8} {ps : List Ex} {e : Ex} (h : AltSt l0 ps l) (hr : PX .row l (.ok e (124 :: l1))) : AltSt l0 (ps ++ [e]) l1 :=
  ⟨fun f l' hf => by rw [foldE_snoc]; exact h.1 _ _ (PX.altMore hr hf), fun r hb => h.2 _ (PX.altMoreBad hr hb)⟩
theorem AltSt.last {l0 l l1 : List UInt8} {ps : List Ex} {e : Ex} (h : AltSt l0 ps l) (hr : PX .row l (.ok e l1)) (hn : NotAt 124 l1) : PX .alt l0 (.ok (foldE .alt (ps ++ [e])) l1) := h.1 _ _ (PX.altOne hr hn)
theorem AltSt.bad {l0 l r : List UInt8} {ps : List Ex} (h : AltSt l0 ps l) (hr : PX .row l (.bad r)) : PX .alt l0 (.bad r) := h.2 _ (PX.altBad hr)
end Go.Proofs.YthgghaaddankoaaGreatDoor
/- Lemmas of mine. -/
namespace Go.Proofs.YthgghaaddankoaaGreatDoor
theorem notAt_cons {c d : UInt8} {l : List UInt8} (h : d ≠ c) : NotAt c (d :: l) := by
  intro t e; simp at e; exact h e.1
theorem notAt_nil (c : UInt8) : NotAt c [] := by intro t e; cases e
theorem ofS_ne {s : Ws} (h : s ≠ Ws.nil) : ofS s = .cls s := by
  unfold ofS; rw [if_neg (fun e => h (sameW_iff.1 e))]
open Go.RowKit
inductive RD where
  | ok (e : Ex)
  | no (at_ err : Nat)
def topR (n : Nat) (res : PR) : RD := if 65536 < n then .no 0 3 else match res with
  | .bad r => .no (n - r.length) 2
  | .ok e l => if l = [] then (if e.size ≤ 2000 then .ok e else .no 0 4) else .no (n - l.length) 2
def zeroRe : Value := .agg #[.int .u8 0, .int .u64 0, .int .u64 0, .int .u64 0, .int .u64 0, .slice none 0 0]
def RdPost (w : World) (rd : RD) (e : Ending) (w' : World) : Prop := Below w.heap.size w w' ∧ match rd with
  | .ok ex => ∃ v, e = .returned (.tuple #[v, .int .i64 0, .int .i64 0]) ∧ ReAt (New w.heap.size) w' v ex.rx
  | .no k err => e = .returned (.tuple #[zeroRe, .int .i64 (k : Int), .int .i64 (err : Int)])
end Go.Proofs.YthgghaaddankoaaGreatDoor
/- Lemmas of mine. -/
namespace Go.Proofs.YthgghaaddankoaaGreatDoor
def partE (k : Nat) : Ex → List Ex
  | .empty => [.empty]
  | .eps => [.eps]
  | .cls s => [.cls s]
  | .seq a b => if k = 4 then partE k a ++ partE k b else [.seq a b]
  | .alt a b => if k = 5 then partE k a ++ partE k b else [.alt a b]
  | .star a => [.star a]
def partL (k : Nat) (l : List Ex) : List Ex := l.flatMap (partE k)
theorem part_mem_size (k : Nat) : ∀ (e x : Ex), x ∈ partE k e → x.size ≤ e.size
  | .empty, x, h => by simp [partE] at h; subst h; exact Nat.le_refl _
  | .eps, x, h => by simp [partE] at h; subst h; exact Nat.le_refl _
  | .cls s, x, h => by simp [partE] at h; subst h; exact Nat.le_refl _
  | .star a, x, h => by simp [partE] at h; subst h; exact Nat.le_refl _
  | .seq a b, x, h => by
    unfold partE at h
    split at h
    · rcases List.mem_append.1 h with h | h
      · have := part_mem_size k a x h; simp only [Ex.size]; omega
      · have := part_mem_size k b x h; simp only [Ex.size]; omega
    · simp at h; subst h; exact Nat.le_refl _
  | .alt a b, x, h => by
    unfold partE at h
    split at h
    · rcases List.mem_append.1 h with h | h
      · have := part_mem_size k a x h; simp only [Ex.size]; omega
      · have := part_mem_size k b x h; simp only [Ex.size]; omega
    · simp at h; subst h; exact Nat.le_refl _
theorem part_mem_wf (k : Nat) : ∀ (e x : Ex), e.Wf → x ∈ partE k e → x.Wf
  | .empty, x, hw, h => by simp [partE] at h; subst h; exact hw
  | .eps, x, hw, h => by simp [partE] at h; subst h; exact hw
  | .cls s, x, hw, h => by simp [partE] at h; subst h; exact hw
  | .star a, x, hw, h => by simp [partE] at h; subst h; exact hw
  | .seq a b, x, hw, h => by
    unfold partE at h
    split at h
    · rcases List.mem_append.1 h with h | h
      · exact part_mem_wf k a x hw.1 h
      · exact part_mem_wf k b x hw.2 h
    · simp at h; subst h; exact hw
  | .alt a b, x, hw, h => by
    unfold partE at h
    split at h
    · rcases List.mem_append.1 h with h | h
      · exact part_mem_wf k a x hw.1 h
      · exact part_mem_wf k b x hw.2 h
    · simp at h; subst h; exact hw
theorem part_len (k : Nat) : ∀ e : Ex, (partE k e).length ≤ e.size
  | .empty => by simp [partE, Ex.size]
  | .eps => by simp [partE, Ex.size]
  | .cls s => by simp [partE, Ex.size]
  | .star a => by simp [partE, Ex.size]
  | .seq a b => by
    have h1 := part_len k a; have h2 := part_len k b; unfold partE
    split
    · simp only [List.length_append, Ex.size]; omega
    · simp only [List.length_singleton, Ex.size]; omega
  | .alt a b => by
    have h1 := part_len k a; have h2 := part_len k b; unfold partE
    split
    · simp only [List.length_append, Ex.size]; omega
    · simp only [List.length_singleton, Ex.size]; omega
theorem partL_append (k : Nat) (l m : List Ex) : partL k (l ++ m) = partL k l ++ partL k m := by simp [partL]
def foldS : List Ex → Ex
  | [] => .eps
  | [r] => r
  | r :: r' :: rs => .seq r (foldS (r' :: rs))
theorem foldS_rx : ∀ l : List Ex, (foldS l).rx = foldR 4 2 (l.map Ex.rx)
  | [] => rfl
  | [_] => rfl
  | r :: r' :: rs => by
    have ih := foldS_rx (r' :: rs); simp only [foldS, Ex.rx, List.map_cons, foldR] at ih ⊢; rw [ih]
def seqP (p : List Ex) : Ex := if p.any Ex.isEmp = true then .empty else foldS (p.filter fun x => !x.isEps)
def seqF (l : List Ex) : Ex := l.foldr seqE .eps
theorem seqE_mkS {x b : Ex} (h1 : x.isEmp = false) (h2 : x.isEps = false) (h3 : x.isSeq = false) : seqE x b = mkS x b := by
  cases x <;> simp_all [Ex.isEmp, Ex.isEps, Ex.isSeq, seqE]
theorem seqE_emp (a : Ex) : seqE a .empty = .empty := by cases a <;> rfl
theorem seqE_eps_nf {a : Ex} : seqE a .eps = a := by
  cases a <;> rfl
theorem seqP_foldr : ∀ (p : List Ex), (∀ x ∈ p, x.isSeq = false) → p.foldr seqE .eps = seqP p
  | [], _ => rfl
  | x :: p, h => by
    have ih := seqP_foldr p fun y hy => h y (List.mem_cons_of_mem _ hy); rw [List.foldr_cons, ih]; unfold seqP
    cases h1 : x.isEmp with
    | true =>
      obtain rfl := isEmp_iff.1 h1; rw [List.any_cons, h1]
      rfl
    | false =>
      rw [List.any_cons, h1, Bool.false_or]
      cases h2 : x.isEps with
      | true =>
        obtain rfl := isEps_iff.1 h2; rw [List.filter_cons, h2]
        rfl
      | false =>
        rw [List.filter_cons, h2]; simp only [Bool.not_false, if_true]; rw [seqE_mkS h1 h2 (h x (by simp))]
        by_cases hq : p.any Ex.isEmp = true
        · rw [if_pos hq, if_pos hq]; rfl
        · rw [if_neg hq, if_neg hq]
          have hm : ∀ y ∈ p.filter fun x => !x.isEps, y.isEmp = false ∧ y.isEps = false := fun y hy => by
            obtain ⟨y1, y2⟩ := List.mem_filter.1 hy; refine ⟨?_, by simpa using y2⟩
            cases hc : y.isEmp with
            | false => rfl
            | true => exact absurd (List.any_eq_true.2 ⟨y, y1, hc⟩) hq
          generalize (p.filter fun x => !x.isEps) = q at *
          match q, hm with
          | [], _ => rfl
          | [y], hm =>
            obtain ⟨a1, a2⟩ := hm y (by simp); show mkS x y = .seq x y; exact mkS_seq a1 a2
          | y :: z :: q, hm => rfl
theorem part_foldr : ∀ (e b : Ex), NF e → seqE e b = (partE 4 e).foldr seqE b
  | .empty, b, _ => rfl
  | .eps, b, _ => rfl
  | .cls s, b, _ => rfl
  | .star a, b, _ => rfl
  | .alt x y, b, _ => rfl
  | .seq c d, b, h => by
    have hs : NF c ∧ NF d ∧ c.isEmp = false ∧ c.isEps = false ∧ c.isSeq = false ∧ d.isEmp = false ∧ d.isEps = false := by
      generalize hz : Ex.seq c d = z at h
      cases h with
      | seq a b h1 h2 h3 h4 h5 h6 h7 => injection hz with e1 e2; subst e1 e2; exact ⟨h1, h2, h3, h4, h5, h6, h7⟩
      | empty => cases hz
      | eps => cases hz
      | cls s => cases hz
      | star a h1 h2 h3 h4 => cases hz
      | alts x y l h1 h2 => cases hz
    obtain ⟨hc, hd, c1, c2, c3, d1, d2⟩ := hs; have ic := part_foldr c; have id' := part_foldr d b hd; (have e : partE 4 (.seq c d) = partE 4 c ++ partE 4 d := by simp [partE]); rw [e, List.foldr_append, ← id', ← ic _ hc]; simp only [seqE]
    split
    · rename_i hb
      rw [isEmp_iff.1 hb, seqE_emp, seqE_emp]
    · split
      · rename_i hb
        rw [isEps_iff.1 hb, seqE_eps_nf, seqE_plain c1 c2 c3 d1 d2]
      · rfl
theorem part_plain : ∀ (e : Ex), ∀ x ∈ partE 4 e, x.isSeq = false
  | .empty, x, h => by simp [partE] at h; subst h; rfl
  | .eps, x, h => by simp [partE] at h; subst h; rfl
  | .cls s, x, h => by simp [partE] at h; subst h; rfl
  | .star a, x, h => by simp [partE] at h; subst h; rfl
  | .alt a b, x, h => by simp [partE] at h; subst h; rfl
  | .seq a b, x, h => by
    (have e : partE 4 (.seq a b) = partE 4 a ++ partE 4 b := by simp [partE]); rw [e] at h
    rcases List.mem_append.1 h with h | h
    · exact part_plain a x h
    · exact part_plain b x h
theorem seqL_eq {l : List Ex} (h : ∀ x ∈ l, NF x) : seqP (partL 4 l) = seqF l := by
  rw [← seqP_foldr _ fun x hx => by
    obtain ⟨e, _, hx⟩ := List.mem_flatMap.1 hx
    exact part_plain e x hx]
  unfold seqF
  induction l with
  | nil => rfl
  | cons e l ih =>
    rw [List.foldr_cons, ← ih fun x hx => h x (List.mem_cons_of_mem _ hx), part_foldr e _ (h e (by simp))]; simp only [partL, List.flatMap_cons, List.foldr_append]
theorem seqE_assoc : ∀ (x z y : Ex), NF x → seqE (seqE x z) y = seqE x (seqE z y)
  | .empty, _, _, _ => rfl
  | .eps, _, _, _ => rfl
  | .cls s, z, y, _ => plain (.cls s) z y rfl rfl rfl
  | .star a, z, y, _ => plain (.star a) z y rfl rfl rfl
  | .alt a b, z, y, _ => plain (.alt a b) z y rfl rfl rfl
  | .seq c d, z, y, h => by
    have hs : NF c ∧ NF d ∧ c.isEmp = false ∧ c.isEps = false ∧ c.isSeq = false ∧ d.isEmp = false ∧ d.isEps = false := by
      generalize hz : Ex.seq c d = q at h
      cases h with
      | seq a b h1 h2 h3 h4 h5 h6 h7 => injection hz with e1 e2; subst e1 e2; exact ⟨h1, h2, h3, h4, h5, h6, h7⟩
      | empty => cases hz
      | eps => cases hz
      | cls s => cases hz
      | star a h1 h2 h3 h4 => cases hz
      | alts x y l h1 h2 => cases hz
    obtain ⟨hc, hd, c1, c2, c3, d1, d2⟩ := hs; have ic := fun z => seqE_assoc c z y hc; have id' := seqE_assoc d z y hd
    cases z1 : z.isEmp with
    | true => rw [isEmp_iff.1 z1, seqE_emp]; show Ex.empty = seqE _ Ex.empty; rw [seqE_emp]
    | false =>
      cases z2 : z.isEps with
      | true => rw [isEps_iff.1 z2, seqE_eps_nf]; rfl
      | false =>
        (have e1 : seqE (.seq c d) z = seqE c (seqE d z) := by simp only [seqE, z1, z2]; rfl); rw [e1, ic, id']; simp only [seqE]
        split
        · rename_i hb
          rw [isEmp_iff.1 hb, seqE_emp, seqE_emp]
        · split
          · rename_i hb
            rw [isEps_iff.1 hb, seqE_eps_nf, seqE_plain c1 c2 c3 d1 d2]
          · rfl
where
  plain (x z y : Ex) (h1 : x.isEmp = false) (h2 : x.isEps = false) (h3 : x.isSeq = false) : seqE (seqE x z) y = seqE x (seqE z y) := by
    cases z1 : z.isEmp with
    | true => rw [isEmp_iff.1 z1, seqE_emp]; show Ex.empty = seqE _ Ex.empty; rw [seqE_emp]
    | false =>
      cases z2 : z.isEps with
      | true => rw [isEps_iff.1 z2, seqE_eps_nf]; rfl
      | false =>
        rw [seqE_plain h1 h2 h3 z1 z2]; simp only [seqE]
        split
        · rename_i hb
          rw [isEmp_iff.1 hb, seqE_emp, seqE_emp]
        · split
          · rename_i hb
            rw [isEps_iff.1 hb, seqE_eps_nf, seqE_plain h1 h2 h3 z1 z2]
          · rfl
theorem seqF_from {l : List Ex} (y : Ex) (h : ∀ x ∈ l, NF x) : l.foldr seqE y = seqE (seqF l) y := by
  unfold seqF
  induction l with
  | nil => rfl
  | cons x l ih => rw [List.foldr_cons, List.foldr_cons, ih fun z hz => h z (List.mem_cons_of_mem _ hz), seqE_assoc _ _ _ (h x (by simp))]
theorem nfs_nf (l : List Ex) : ∀ x ∈ l.map nfE, NF x := fun x hx => by
  obtain ⟨e, _, rfl⟩ := List.mem_map.1 hx; exact nf_nf e
theorem seqF_part : ∀ e : Ex, seqF ((partE 4 e).map nfE) = nfE e
  | .empty => rfl
  | .eps => rfl
  | .cls s => rfl
  | .star a => seqE_eps_nf
  | .alt a b => seqE_eps_nf
  | .seq a b => by
    have ha := seqF_part a; have hb := seqF_part b; (have e : partE 4 (.seq a b) = partE 4 a ++ partE 4 b := by simp [partE]); rw [e, List.map_append]; unfold seqF at hb ⊢; rw [List.foldr_append, hb, seqF_from _ (nfs_nf _), ha]
    rfl
theorem seqF_parts (l : List Ex) : seqF ((partL 4 l).map nfE) = seqF (l.map nfE) := by
  induction l with
  | nil => rfl
  | cons e l ih =>
    have e1 : partL 4 (e :: l) = partE 4 e ++ partL 4 l := rfl; rw [e1, List.map_append]; unfold seqF at ih ⊢; rw [List.foldr_append, ih, seqF_from _ (nfs_nf _), seqF_part]
    rfl
theorem seq_whole (l : List Ex) : seqP (partL 4 ((partL 4 l).map nfE)) = seqF (l.map nfE) := by
  rw [seqL_eq (nfs_nf _), seqF_parts]
theorem seq_node (a b : Ex) : seqP (partL 4 ((partL 4 [a, b]).map nfE)) = nfE (.seq a b) := by
  rw [seq_whole]; show seqE (nfE a) (seqE (nfE b) .eps) = _; rw [seqE_eps_nf]
  rfl
def bareL (p : List Ex) : List Ex := p.filter fun x => !x.isEmp && !x.isCls
def gathP (p : List Ex) : List Ex := if setE p = Ws.nil then bareL p else bareL p ++ [.cls (setE p)]
theorem flat_part : ∀ e : Ex, flatE e = (partE 5 e).filter fun x => !x.isEmp
  | .empty => rfl
  | .eps => rfl
  | .cls s => rfl
  | .star a => rfl
  | .seq a b => rfl
  | .alt a b => by
    (have e : partE 5 (.alt a b) = partE 5 a ++ partE 5 b := by simp [partE]); rw [e, List.filter_append, ← flat_part a, ← flat_part b]
    rfl
theorem flats_part (l : List Ex) : l.flatMap flatE = (partL 5 l).filter fun x => !x.isEmp := by
  induction l with
  | nil => rfl
  | cons e l ih =>
    have e1 : partL 5 (e :: l) = partE 5 e ++ partL 5 l := rfl; rw [e1, List.filter_append, ← ih, ← flat_part]
    rfl
theorem setE_filter (p : List Ex) : setE (p.filter fun x => !x.isEmp) = setE p := by
  unfold setE
  congr 1
  induction p with
  | nil => rfl
  | cons x p ih =>
    cases x with
    | empty => rw [List.filter_cons]; exact ih
    | eps => rw [List.filter_cons]; exact ih
    | cls s => rw [List.filter_cons]; exact congrArg (List.cons s) ih
    | seq a b => rw [List.filter_cons]; exact ih
    | alt a b => rw [List.filter_cons]; exact ih
    | star a => rw [List.filter_cons]; exact ih
theorem gath_part (l : List Ex) : gathE (l.flatMap flatE) = gathP (partL 5 l) := by
  unfold gathE gathP; rw [flats_part, setE_filter]
  have : restE ((partL 5 l).filter fun x => !x.isEmp) = bareL (partL 5 l) := by
    unfold restE bareL; rw [List.filter_filter]
    congr 1
    funext x
    rw [Bool.and_comm]
  rw [this]
theorem altE_part (l : List Ex) : altE l = foldA (canE (gathP (partL 5 l))) := by
  unfold altE; rw [gath_part]
theorem can_ext {X Y : List Ex} (h : ∀ x, x ∈ X ↔ x ∈ Y) : canE X = canE Y :=
  canE_eq (canE_order Y) (canE_nodup Y) fun x => by rw [canE_mem]; exact h x
def Sim (X Y : List Ex) : Prop := (∀ x : Ex, x.isCls = false → (x ∈ X ↔ x ∈ Y)) ∧ setE X = setE Y
theorem Sim.refl (X : List Ex) : Sim X X := ⟨fun _ _ => Iff.rfl, rfl⟩
theorem Sim.trans {X Y Z : List Ex} (h : Sim X Y) (k : Sim Y Z) : Sim X Z := ⟨fun x hx => (h.1 x hx).trans (k.1 x hx), h.2.trans k.2⟩
theorem foldJ_from (l : List Ws) : ∀ z : Ws, l.foldl Ws.join z = z.join (l.foldl Ws.join Ws.nil) := by
  induction l with
  | nil => intro z; exact (Ws.join_nil z).symm
  | cons s l ih => intro z; rw [List.foldl_cons, List.foldl_cons, ih (z.join s), ih (Ws.nil.join s), Ws.nil_join, Ws.join_assoc]
theorem setE_append (X Y : List Ex) : setE (X ++ Y) = (setE X).join (setE Y) := by
  unfold setE; rw [List.filterMap_append, List.foldl_append, foldJ_from (Y.filterMap clsS)]
theorem Sim.append {X Y Z W : List Ex} (h : Sim X Y) (k : Sim Z W) : Sim (X ++ Z) (Y ++ W) :=
  ⟨fun x hx => by rw [List.mem_append, List.mem_append, h.1 x hx, k.1 x hx], by rw [setE_append, setE_append, h.2, k.2]⟩
theorem gath_mem {l : List Ex} {x : Ex} : x ∈ gathE l ↔ (x ∈ l ∧ x.isCls = false) ∨ (setE l ≠ Ws.nil ∧ x = .cls (setE l)) := by
  unfold gathE
  split
  · rename_i h
    rw [mem_rest]; exact ⟨fun h => .inl h, fun h' => h'.elim id fun h' => absurd h h'.1⟩
  · rename_i h
    rw [List.mem_append, mem_rest, List.mem_singleton]; exact ⟨fun h' => h'.elim .inl fun h' => .inr ⟨h, h'⟩, fun h' => h'.elim .inl fun h' => .inr h'.2⟩
theorem Sim.can {X Y : List Ex} (h : Sim X Y) : canE (gathE X) = canE (gathE Y) := by
  refine can_ext fun x => ?_; rw [gath_mem, gath_mem, h.2]
  constructor
  · rintro (⟨h1, h2⟩ | h1)
    · exact .inl ⟨(h.1 x h2).1 h1, h2⟩
    · exact .inr h1
  · rintro (⟨h1, h2⟩ | h1)
    · exact .inl ⟨(h.1 x h2).2 h1, h2⟩
    · exact .inr h1
theorem sim_can {X : List Ex} (hw : Ex.Wfs X) : Sim (canE (gathE X)) X := by
  refine ⟨fun x hx => ?_, ?_⟩
  · rw [canE_mem, gath_mem]
    constructor
    · rintro (h | ⟨_, rfl⟩)
      · exact h.1
      · cases hx
    · exact fun h => .inl ⟨h, hx⟩
  · by_cases hn : setE X = Ws.nil
    · rw [hn]; refine setE_none fun t ht => ?_; rw [canE_mem, gath_mem] at ht
      rcases ht with ht | ht
      · cases ht.2
      · exact ht.1 hn
    · refine setE_one (setE_ok hw) ?_ fun t ht => ?_
      · rw [canE_mem, gath_mem]; exact .inr ⟨hn, rfl⟩
      · rw [canE_mem, gath_mem] at ht
        rcases ht with ht | ht
        · cases ht.2
        · exact (Ex.cls.inj ht.2)
theorem flat_alt {l : List Ex} (h : ∀ x ∈ l, NF x) : flatE (altE l) = canE (gathE (l.flatMap flatE)) := by
  unfold altE; refine flat_fold _ (gath_ok fun x hx => ?_).1; obtain ⟨e, he, hx⟩ := List.mem_flatMap.1 hx; exact (h e he).row.2.1.1 x hx
theorem sim_part : ∀ e : Ex, e.Wf → Sim (flatE (nfE e)) (((partE 5 e).map nfE).flatMap flatE)
  | .empty, _ => Sim.refl _
  | .eps, _ => Sim.refl _
  | .cls s, _ => Sim.refl _
  | .star a, _ => by simp [partE]; exact Sim.refl _
  | .seq a b, _ => by simp [partE]; exact Sim.refl _
  | .alt a b, h => by
    have ha := sim_part a h.1; have hb := sim_part b h.2; (have e : partE 5 (.alt a b) = partE 5 a ++ partE 5 b := by simp [partE])
    have hw : Ex.Wfs [nfE a, nfE b] := fun x hx => by
      simp at hx
      rcases hx with rfl | rfl
      · exact nf_wf a h.1
      · exact nf_wf b h.2
    have hn : ∀ x ∈ [nfE a, nfE b], NF x := fun x hx => by
      simp at hx
      rcases hx with rfl | rfl
      · exact nf_nf a
      · exact nf_nf b
    rw [e, List.map_append, List.flatMap_append]; show Sim (flatE (altE [nfE a, nfE b])) _; rw [flat_alt hn]; refine (sim_can (flats_wf hw)).trans ?_; (have e2 : [nfE a, nfE b].flatMap flatE = flatE (nfE a) ++ flatE (nfE b) := by simp); rw [e2]; exact ha.append hb
theorem sim_parts {l : List Ex} (h : Ex.Wfs l) : Sim ((l.map nfE).flatMap flatE) (((partL 5 l).map nfE).flatMap flatE) := by
  induction l with
  | nil => exact Sim.refl _
  | cons e l ih =>
    have e1 : partL 5 (e :: l) = partE 5 e ++ partL 5 l := rfl; rw [e1, List.map_append, List.flatMap_append, List.map_cons, List.flatMap_cons]; exact (sim_part e (h e (by simp))).append (ih fun x hx => h x (List.mem_cons_of_mem _ hx))
theorem alt_whole {l : List Ex} (h : Ex.Wfs l) : altE ((partL 5 l).map nfE) = altE (l.map nfE) := by
  unfold altE; rw [(sim_parts h).can]
theorem alt_node {a b : Ex} (h : (Ex.alt a b).Wf) : altE ((partL 5 [a, b]).map nfE) = nfE (.alt a b) := by
  rw [alt_whole fun x hx => by
    simp at hx
    rcases hx with rfl | rfl
    · exact h.1
    · exact h.2]
  rfl
open Go.RowKit
abbrev zR : Obj := .cells #[.int .u8 0, .int .u64 0, .int .u64 0, .int .u64 0, .int .u64 0, .slice none 0 0] 39 (0, 0)
def NoZ (w : World) (b : Nat) : Prop := w.heap[b]? ≠ some zR
theorem noz_cell {w : World} {b off k : Nat} (h : w.cell? ⟨b, off, none⟩ = some (.int .u8 (k : Int))) (hk : k ≠ 0) : NoZ w b := by
  intro e; rw [Lib.cell_of_heap e] at h
  match off with
  | 0 => simp at h; omega
  | 1 => simp at h
  | 2 => simp at h
  | 3 => simp at h
  | 4 => simp at h
  | 5 => simp at h
  | n + 6 => simp at h
theorem rx_some (e : Ex) : ∃ k s ks, e.rx = .node k s ks ∧ k ≠ 0 := by cases e <;> exact ⟨_, _, _, rfl, by decide⟩
theorem noz_node {ok : Nat → Prop} {w : World} {b off : Nat} {e : Ex} (h : NodeAt ok w b off e.rx) : NoZ w b := by
  obtain ⟨k, s, ks, he, hk⟩ := rx_some e; rw [he] at h; unfold NodeAt at h; exact noz_cell h.2.2.1.1 hk
theorem node_noz {ok : Nat → Prop} {w : World} : ∀ (e : Ex) {b off : Nat}, NodeAt ok w b off e.rx → NodeAt (fun b => ok b ∧ NoZ w b) w b off e.rx
  | .empty, b, off, h => by
    unfold Ex.rx NodeAt at h ⊢; obtain ⟨h0, hs, hc, al, cap, c5, h1, h2, h3⟩ := h; exact ⟨h0, hs, hc, al, cap, c5, h1, h2, .inl rfl⟩
  | .eps, b, off, h => by
    unfold Ex.rx NodeAt at h ⊢; obtain ⟨h0, hs, hc, al, cap, c5, h1, h2, h3⟩ := h; exact ⟨h0, hs, hc, al, cap, c5, h1, h2, .inl rfl⟩
  | .cls s, b, off, h => by
    unfold Ex.rx NodeAt at h ⊢; obtain ⟨h0, hs, hc, al, cap, c5, h1, h2, h3⟩ := h; exact ⟨h0, hs, hc, al, cap, c5, h1, h2, .inl rfl⟩
  | .seq x y, b, off, h => by
    unfold Ex.rx NodeAt at h ⊢; obtain ⟨h0, hs, hc, al, cap, c5, h1, h2, h3⟩ := h; refine ⟨h0, hs, hc, al, cap, c5, h1, h2, ?_⟩
    rcases h3 with h3 | ⟨b', off', e1, e2, e3, e4⟩
    · cases h3
    · simp only [NodesAt] at e4 ⊢; exact .inr ⟨b', off', e1, e2, ⟨e3, noz_node e4.1⟩, node_noz x e4.1, node_noz y e4.2.1, trivial⟩
  | .alt x y, b, off, h => by
    unfold Ex.rx NodeAt at h ⊢; obtain ⟨h0, hs, hc, al, cap, c5, h1, h2, h3⟩ := h; refine ⟨h0, hs, hc, al, cap, c5, h1, h2, ?_⟩
    rcases h3 with h3 | ⟨b', off', e1, e2, e3, e4⟩
    · cases h3
    · simp only [NodesAt] at e4 ⊢; exact .inr ⟨b', off', e1, e2, ⟨e3, noz_node e4.1⟩, node_noz x e4.1, node_noz y e4.2.1, trivial⟩
  | .star x, b, off, h => by
    unfold Ex.rx NodeAt at h ⊢; obtain ⟨h0, hs, hc, al, cap, c5, h1, h2, h3⟩ := h; refine ⟨h0, hs, hc, al, cap, c5, h1, h2, ?_⟩
    rcases h3 with h3 | ⟨b', off', e1, e2, e3, e4⟩
    · cases h3
    · simp only [NodesAt] at e4 ⊢; exact .inr ⟨b', off', e1, e2, ⟨e3, noz_node e4.1⟩, node_noz x e4.1, trivial⟩
theorem re_noz {ok : Nat → Prop} {w : World} {v : Value} (e : Ex) (h : ReAt ok w v e.rx) : ReAt (fun b => ok b ∧ NoZ w b) w v e.rx := by
  cases e with
  | empty => exact leaf_any _ h
  | eps => exact leaf_any _ h
  | cls s => exact leaf_any _ h
  | seq x y =>
    unfold Ex.rx ReAt RowAt at h ⊢; obtain ⟨h0, hs, al, cap, e, h1, h2, h3⟩ := h; refine ⟨h0, hs, al, cap, e, h1, h2, ?_⟩
    rcases h3 with h3 | ⟨b', off', e1, e2, e3, e4⟩
    · cases h3
    · simp only [NodesAt] at e4 ⊢; exact .inr ⟨b', off', e1, e2, ⟨e3, noz_node e4.1⟩, node_noz x e4.1, node_noz y e4.2.1, trivial⟩
  | alt x y =>
    unfold Ex.rx ReAt RowAt at h ⊢; obtain ⟨h0, hs, al, cap, e, h1, h2, h3⟩ := h; refine ⟨h0, hs, al, cap, e, h1, h2, ?_⟩
    rcases h3 with h3 | ⟨b', off', e1, e2, e3, e4⟩
    · cases h3
    · simp only [NodesAt] at e4 ⊢; exact .inr ⟨b', off', e1, e2, ⟨e3, noz_node e4.1⟩, node_noz x e4.1, node_noz y e4.2.1, trivial⟩
  | star x =>
    unfold Ex.rx ReAt RowAt at h ⊢; obtain ⟨h0, hs, al, cap, e, h1, h2, h3⟩ := h; refine ⟨h0, hs, al, cap, e, h1, h2, ?_⟩
    rcases h3 with h3 | ⟨b', off', e1, e2, e3, e4⟩
    · cases h3
    · simp only [NodesAt] at e4 ⊢; exact .inr ⟨b', off', e1, e2, ⟨e3, noz_node e4.1⟩, node_noz x e4.1, trivial⟩
theorem put_ex {ok : Nat → Prop} {W : World} {g : Nat} {e : Ex} {y0 y1 y2 y3 y4 y5 : Value} (hz : W.heap[g]? = some zR) (h : ReAt ok W (.agg #[y0, y1, y2, y3, y4, y5]) e.rx) :
    (putW W g y0 y1 y2 y3 y4 y5).heap[g]? = some (.cells #[y0, y1, y2, y3, y4, y5] 39) ∧ ReAt ok (putW W g y0 y1 y2 y3 y4 y5) (.agg #[y0, y1, y2, y3, y4, y5]) e.rx := by
  refine ⟨putR hz _ _ _ _ _ _, (re_noz e h).go ⟨by simp [putW, World.setCell], fun b _ hb => ⟨hb.1, ?_⟩⟩⟩; have hne : b ≠ g := fun e => hb.2 (by rw [e]; exact hz); simp [putW, World.setCell, Array.getElem?_modify, Ne.symm hne]
def okN (ok : Nat → Prop) (n b : Nat) : Prop := ok b ∨ n ≤ b
def ExV (ok : Nat → Prop) (e : Ex) (x : Value) (w : World) : Prop := ∃ (p0 p1 p2 p3 p4 : Int) (pl : Option Addr) (pn pc : Nat), x = .agg #[.int .u8 p0, .int .u64 p1, .int .u64 p2, .int .u64 p3, .int .u64 p4, .slice pl pn pc] ∧ ReAt ok w (.agg #[.int .u8 p0, .int .u64 p1, .int .u64 p2, .int .u64 p3, .int .u64 p4, .slice pl pn pc]) e.rx
theorem ExV.of {ok ok' : Nat → Prop} {w : World} {v : Value} {e : Ex} (h : ReAt ok w v e.rx) (hi : ∀ b, b < w.heap.size → ok b → ok' b) : ExV ok' e v w := by
  obtain ⟨p0, p1, p2, p3, p4, pl, pn, pc, rfl⟩ := cells_re h; exact ⟨p0, p1, p2, p3, p4, pl, pn, pc, rfl, h.imp hi⟩
def SP.ex (ok : Nat → Prop) (e : Ex) : SP := ⟨ExV ok e, fun _ _ _ ⟨p0, p1, p2, p3, p4, pl, pn, pc, h1, h2⟩ hb => ⟨p0, p1, p2, p3, p4, pl, pn, pc, h1, h2.below hb⟩⟩
def ExPost (ok : Nat → Prop) (e : Ex) (w : World) (x : Ending) (w' : World) : Prop := ∃ v, x = .returned v ∧ ReAt (okN ok w.heap.size) w' v e.rx ∧ Below w.heap.size w w'
theorem ret_ex {fn : Func} {a : Act} {ok : Nat → Prop} {w W : World} {k g : Nat} {e : Ex} {y0 y1 y2 y3 y4 y5 : Value} (hz : W.heap[g]? = some zR) (h : ReAt (okN ok w.heap.size) W (.agg #[y0, y1, y2, y3, y4, y5]) e.rx) (hb : Below w.heap.size w W) (hg : w.heap.size ≤ g)
    (hres : fn.results = #[.cell k 39]) (hslot : a.tmps.getD k undef = .pointer (some ⟨g, 0, none⟩)) (hd : a.defers = []) : bodyPost Tryz.prog fn (ExPost ok e w) .ret a (putW W g y0 y1 y2 y3 y4 y5) :=
  ret_re (put_ex hz h).1 hres hslot hd ⟨_, rfl, (put_ex hz h).2, putB hb hg _ _ _ _ _ _⟩
def Bn2 (w W : World) (X Y : Obj) : Prop := W.heap[w.heap.size]? = some X ∧ W.heap[w.heap.size + 1]? = some Y ∧ W.heap[w.heap.size + 1 + 1]? = some zR ∧ Below w.heap.size w W
theorem Bn2.go {w W W' : World} {X Y : Obj} (h : Bn2 w W X Y) (hb : Below W.heap.size W W') : Bn2 w W' X Y :=
  ⟨(hb.block _ (Array.getElem?_eq_some_iff.1 h.1).1).trans h.1, (hb.block _ (Array.getElem?_eq_some_iff.1 h.2.1).1).trans h.2.1, (hb.block _ (Array.getElem?_eq_some_iff.1 h.2.2.1).1).trans h.2.2.1, h.2.2.2.trans (hb.mono h.2.2.2.size)⟩
theorem Bn2.new (w : World) (X Y : Obj) : Bn2 w (((w.alloc X).alloc Y).alloc zR) X Y :=
  ⟨(Below.heap_alloc _ _ _ (by simp; omega)).trans ((Below.heap_alloc _ _ _ (by simp)).trans (blk_new w _)), (Below.heap_alloc _ _ _ (by simp)).trans (blk_at _ _ (by simp)), blk_at _ _ (by simp), (((Below.refl _ w).alloc (Nat.le_refl _) _).alloc (by simp) _).alloc (by simp; omega) _⟩
def Bn1 (w W : World) (X : Obj) : Prop := W.heap[w.heap.size]? = some X ∧ W.heap[w.heap.size + 1]? = some zR ∧ Below w.heap.size w W
theorem Bn1.go {w W W' : World} {X : Obj} (h : Bn1 w W X) (hb : Below W.heap.size W W') : Bn1 w W' X :=
  ⟨(hb.block _ (Array.getElem?_eq_some_iff.1 h.1).1).trans h.1, (hb.block _ (Array.getElem?_eq_some_iff.1 h.2.1).1).trans h.2.1, h.2.2.trans (hb.mono h.2.2.size)⟩
theorem Bn1.new (w : World) (X : Obj) : Bn1 w ((w.alloc X).alloc zR) X :=
  ⟨(Below.heap_alloc _ _ _ (by simp)).trans (blk_new w _), blk_at _ _ (by simp), ((Below.refl _ w).alloc (Nat.le_refl _) _).alloc (by simp) _⟩
theorem al3 (w : World) (X Y Z : Obj) : Below w.heap.size w (((w.alloc X).alloc Y).alloc Z) := (((Below.refl _ w).alloc (Nat.le_refl _) _).alloc (by simp) _).alloc (by simp; omega) _
theorem al2 (w : World) (X Y : Obj) : Below w.heap.size w ((w.alloc X).alloc Y) := ((Below.refl _ w).alloc (Nat.le_refl _) _).alloc (by simp) _
theorem six_keep {w x : World} {b off : Nat} {x0 x1 x2 x3 x4 x5 : Value} (hb : b < w.heap.size) (h : w.cell? ⟨b, off, none⟩ = some x0 ∧ w.cell? ⟨b, off + 1, none⟩ = some x1 ∧ w.cell? ⟨b, off + 2, none⟩ = some x2 ∧ w.cell? ⟨b, off + 3, none⟩ = some x3 ∧ w.cell? ⟨b, off + 4, none⟩ = some x4 ∧ w.cell? ⟨b, off + 5, none⟩ = some x5) (hx : Below w.heap.size w x) :
    x.cell? ⟨b, off, none⟩ = some x0 ∧ x.cell? ⟨b, off + 1, none⟩ = some x1 ∧ x.cell? ⟨b, off + 2, none⟩ = some x2 ∧ x.cell? ⟨b, off + 3, none⟩ = some x3 ∧ x.cell? ⟨b, off + 4, none⟩ = some x4 ∧ x.cell? ⟨b, off + 5, none⟩ = some x5 := by
  obtain ⟨d0, d1, d2, d3, d4, d5⟩ := h; have e := fun o => hx.cell (p := ⟨b, o, none⟩) hb; exact ⟨by rw [e]; exact d0, by rw [e]; exact d1, by rw [e]; exact d2, by rw [e]; exact d3, by rw [e]; exact d4, by rw [e]; exact d5⟩
theorem okN_in {ok : Nat → Prop} {n m k : Nat} (h : n ≤ m) : ∀ b, b < k → okN (okN ok n) m b → okN ok n b := by
  intro b _ hb
  rcases hb with hb | hb
  · exact hb
  · exact .inr (Nat.le_trans h hb)
open Go.RowKit
theorem part_same {e : Ex} {k : Nat} {s : Ws} {ks : List Rx} (h : e.rx = .node k s ks) (hk : k = 4 ∨ k = 5) : ∃ a b : Ex, ks = [a.rx, b.rx] ∧ partE k e = partE k a ++ partE k b ∧ a.size + b.size < e.size ∧ partL k [a, b] = partE k e := by
  cases e with
  | empty => simp only [Ex.rx] at h; injection h with h1; omega
  | eps => simp only [Ex.rx] at h; injection h with h1; omega
  | cls s => simp only [Ex.rx] at h; injection h with h1; omega
  | star a => simp only [Ex.rx] at h; injection h with h1; omega
  | seq a b =>
    simp only [Ex.rx] at h; injection h with h1 h2 h3; subst h1; exact ⟨a, b, h3.symm, by simp [partE], by simp only [Ex.size]; omega, by simp [partL, partE]⟩
  | alt a b =>
    simp only [Ex.rx] at h; injection h with h1 h2 h3; subst h1; exact ⟨a, b, h3.symm, by simp [partE], by simp only [Ex.size]; omega, by simp [partL, partE]⟩
theorem part_other {e : Ex} {k k' : Nat} {s : Ws} {ks : List Rx} (h : e.rx = .node k' s ks) (hk : k' ≠ k) : partE k e = [e] := by
  cases e with
  | empty => rfl
  | eps => rfl
  | cls s => rfl
  | star a => rfl
  | seq a b =>
    simp only [Ex.rx] at h; injection h with h1; unfold partE; rw [if_neg (by omega)]
  | alt a b =>
    simp only [Ex.rx] at h; injection h with h1; unfold partE; rw [if_neg (by omega)]
theorem partL_take {k : Nat} {l : List Ex} {i : Nat} (h : i < l.length) : partL k (l.take (i + 1)) = partL k (l.take i) ++ partE k l[i] := by
  rw [List.take_succ_eq_append_getElem h, partL_append]; simp [partL]
theorem part_take_le (k : Nat) (done l : List Ex) (i : Nat) : (done ++ partL k (l.take i)).length ≤ (done ++ partL k l).length := by
  have h := partL_append k (l.take i) (l.drop i); rw [List.take_append_drop] at h; rw [h]; simp only [List.length_append]; omega
def Ex.sum (l : List Ex) : Nat := (l.map Ex.size).sum
theorem sum_get {l : List Ex} {i : Nat} (h : i < l.length) : l[i].size ≤ Ex.sum l := by
  induction l generalizing i with
  | nil => simp at h
  | cons e l ih =>
    cases i with
    | zero => simp [Ex.sum]
    | succ i => have := ih (i := i) (by simpa using h); simp [Ex.sum] at this ⊢; omega
theorem row_re {B : Nat} {w0 w : World} {v : Value} {r : Rx} (h : ReAt (Lo B) w0 v r) (hB : B ≤ w0.heap.size) (hb : Below B w0 w) : ReAt (Lo B) w v r := h.go (kept_lo hB hb)
structure Tell (M B : Nat) (w0 : World) (fn : Nat) (cs : Array Value) (I : List Ex → World → Prop) (Pr : Ex → Prop) : Prop where
  enter : ∀ v w, Sem.run Tryz.prog (callFunc fn (#[v] ++ cs)) w = .ok (.enter fn (#[v] ++ cs)) w
  keep : ∀ done w w', I done w → Below w.heap.size w w' → I done w'
  step : ∀ done e v w, done.length < M → I done w → Below B w0 w → Pr e → ReAt (Lo B) w v e.rx → Calls Tryz.prog fn (#[v] ++ cs) w fun x w' => x = .returned (.tuple #[]) ∧ I (done ++ [e]) w' ∧ Below B w w'
def eachInv (k B : Nat) (I : List Ex → World → Prop) (done l : List Ex) (w : World) (y : Value) (wr : World) : Prop := ∃ i : Nat, i ≤ l.length ∧ y = .int .i64 i ∧ I (done ++ partL k (l.take i)) wr ∧ Below B w wr
set_option maxRecDepth 100000 in
set_option maxHeartbeats 8000000 in
theorem each_any {M k B : Nat} {w0 : World} {fn : Nat} {cs : Array Value} {I : List Ex → World → Prop} {Pr : Ex → Prop} (hk : k = 4 ∨ k = 5) (hB : B ≤ w0.heap.size) (hT : Tell M B w0 fn cs I Pr) (N : Nat) :
    ∀ (l : List Ex) (al : Option Addr) (cap : Nat) (done : List Ex) (w : World), Ex.sum l ≤ N → l.length < 2199023255552 → RowAt (Lo B) w0 al (l.map Ex.rx) → (∀ x ∈ partL k l, Pr x) → (done ++ partL k l).length ≤ M → I done w → Below B w0 w →
    Calls Tryz.prog 92 #[.int .u8 k, .slice al l.length cap, .func (.func fn) #[] cs] w fun x w' => x = .returned (.tuple #[]) ∧ I (done ++ partL k l) w' ∧ Below B w w' := by
  induction N with
  | zero =>
    intro l al cap done w hN hlen hR hP hM hI hb
    have hl : l = [] := by
      cases l with
      | nil => rfl
      | cons e l => have := e.size_pos; simp [Ex.sum] at hN; omega
    subst hl; have HI := Lib.hid hI; clear hI hR hP hT hM; (have q1 : ¬ (0 : Int) < ((([] : List Ex).length : Nat) : Int) := by simp); rw [show ([] : List Ex).length = 0 from rfl]; go_enter Tryz.func92, Tryz.ntmps92; go_wp2
    go_loopw [10] (fun y wr => y = .int .i64 0 ∧ wr = w) (fun _ _ => 0)
    case atStart => exact ⟨rfl, rfl⟩
    case round =>
      obtain ⟨rfl, rfl⟩ := hrel; go_wp2; go_end0; exact ⟨rfl, by simpa [partL] using HI.out, Below.refl _ _⟩
  | succ N ih =>
    intro l al cap done w hN hlen hR hP hM hI hb; have HM := Lib.hid hM; have IH := Lib.hid ih; have HR := Lib.hid hR; have HP := Lib.hid hP; have HI := Lib.hid hI; have HT := Lib.hid hT; clear ih hR hP hI hT hM; go_enter Tryz.func92, Tryz.ntmps92; go_wp2
    go_loopw [10] (fun y wr => eachInv k B I done l w y wr) (fun y _ => l.length - (intOf y).toNat)
    case atStart => exact ⟨0, Nat.zero_le _, rfl, by simpa [partL] using HI.out, Below.refl _ _⟩
    case round =>
      obtain ⟨i, hi, rfl, hIr, hbr⟩ := hrel; clear HI; have HI := Lib.hid hIr; clear hIr
      by_cases hlt : i < l.length
      · (have hlt' : i < (l.map Ex.rx).length := by simpa using hlt); obtain ⟨b, off, rfl, hblt, hbB, hnode⟩ := HR.out.kidOk hlt'; rw [List.getElem_map] at hnode; have hsz := sum_get hlt; have HPT := Lib.hid (partL_take (k := k) hlt); have HML := Lib.hid (Nat.le_trans (part_take_le k done l (i + 1)) HM.out); rw [partL_take hlt] at HML; have HPM := Lib.hid fun x (hx : x ∈ partE k l[i]) => HP.out x (List.mem_flatMap.2 ⟨l[i], List.getElem_mem hlt, hx⟩); generalize l[i] = e at *; obtain ⟨ka, ⟨sa, sb, sc, sd⟩, ksa, hsa⟩ := rx_form e; rw [hsa] at hnode; obtain ⟨al', cap', ⟨c0w, c1w, c2w, c3w, c4w, c5w⟩, hre⟩ := hnode.read; simp only at c0w c1w c2w c3w c4w c5w hre; have hb0r : Below B w0 wr := hb.trans hbr; have hblk := hb0r.block b hbB; have e6 := fun o => World.cell?_of_block (w := w0) (w' := wr) (a := ⟨b, o, none⟩) hblk; have c0 := (e6 _).trans c0w; have c1 := (e6 _).trans c1w; have c2 := (e6 _).trans c2w; have c3 := (e6 _).trans c3w; have c4 := (e6 _).trans c4w; have c5 := (e6 _).trans c5w; (have q1 : (i : Int) < (l.length : Int) := by omega); clear e6 c0w c1w c2w c3w c4w c5w hnode hblk
        by_cases hkk : ka = k
        · subst hkk; (have hkb : ((ka : Int) == (ka : Int)) = true := by simp); obtain ⟨x, y, rfl, hpe, hsum, hpl⟩ := part_same hsa hk; have hrow := hre.2.2; obtain ⟨al2, cap2, heq, _, _, hrow⟩ := hrow; simp at heq; obtain ⟨rfl, rfl⟩ := heq; have K := Lib.hid fun W (hW : Below wr.heap.size wr W) => IH.out [x, y] al' cap' (done ++ partL ka (l.take i)) W (by simp [Ex.sum]; omega) (by simp) hrow (by rw [hpl]; exact HPM.out) (by rw [hpl, List.append_assoc]; exact HML.out) (HT.out.keep _ _ _ HI.out hW) (hb0r.trans (hW.mono (Nat.le_trans hB hb0r.size))); rw [show ([x, y] : List Ex).length = 2 from rfl, hpl] at K; have HB2 := Lib.hid fun w2 (W : World) (hW : Below wr.heap.size wr W) (h : Below B W w2) => (hbr.trans (hW.mono (Nat.le_trans hB hb0r.size))).trans h; clear hrow hre hpe hpl hsum HPM; go_wp2_with fail; refine (K.out _ ((Below.refl _ wr).alloc (Nat.le_refl _) _)).mono ?_; rintro z w2 ⟨rfl, hI2, hb2⟩; have H := Lib.hid (show eachInv ka B I done l w (.int .i64 (i + 1 : Nat)) w2 from ⟨i + 1, hlt, rfl, by rw [HPT.out, ← List.append_assoc]; exact hI2, HB2.out _ _ ((Below.refl _ wr).alloc (Nat.le_refl _) _) hb2⟩); clear hI2 hb2 K HB2; go_wp2; exact ⟨by simpa using H.out, by simp [intOf]; omega⟩
        · (have hkb : ((ka : Int) == (k : Int)) = false := by simp; omega); have hpo := part_other hsa hkk; have K := Lib.hid fun W (hW : Below wr.heap.size wr W) => HT.out.step (done ++ partL k (l.take i)) e _ W (by have h := HML.out; rw [hpo, ← List.append_assoc, List.length_append] at h; exact h) (HT.out.keep _ _ _ HI.out hW) (hb0r.trans (hW.mono (Nat.le_trans hB hb0r.size))) (HPM.out e (by rw [hpo]; simp)) (by rw [hsa]; exact row_re hre hB (hb0r.trans (hW.mono (Nat.le_trans hB hb0r.size)))); have HB2 := Lib.hid fun w2 (W : World) (hW : Below wr.heap.size wr W) (h : Below B W w2) => (hbr.trans (hW.mono (Nat.le_trans hB hb0r.size))).trans h; rw [hpo] at HPT; clear hre hpo HPM; go_wp2_with fail; rw [HT.out.enter]; refine (K.out _ ((Below.refl _ wr).alloc (Nat.le_refl _) _)).mono ?_; rintro z w2 ⟨rfl, hI2, hb2⟩; have H := Lib.hid (show eachInv k B I done l w (.int .i64 (i + 1 : Nat)) w2 from ⟨i + 1, hlt, rfl, by rw [HPT.out, ← List.append_assoc]; exact hI2, HB2.out _ _ ((Below.refl _ wr).alloc (Nat.le_refl _) _) hb2⟩); clear hI2 hb2 K HB2; go_wp2; exact ⟨by simpa using H.out, by simp [intOf]; omega⟩
      · have he : l.take i = l := List.take_of_length_le (by omega); (have q1 : ¬ (i : Int) < (l.length : Int) := by omega); go_wp2; go_end0; exact ⟨rfl, by rw [← he]; exact HI.out, hbr⟩
end Go.Proofs.YthgghaaddankoaaGreatDoor
/- Lemmas of mine. -/
namespace Go.Proofs.YthgghaaddankoaaGreatDoor
structure Lv where
  rows : List Ex
  parts : List Ex
theorem stars_stop (p : Ex) {l : List UInt8} (h : NotAt 42 l) : stars p l = (p, l) := by
  cases l with
  | nil => rfl
  | cons c t =>
    have hc : ¬ c = 42 := fun e => h t (by rw [e]); simp only [stars, if_neg hc]
theorem stars_42 (p : Ex) (l : List UInt8) : stars p (42 :: l) = stars (.star p) l := by simp only [stars, if_true]
theorem beg_not {l : List UInt8} (h : begB l = true) : NotAt 42 l ∧ NotAt 41 l ∧ NotAt 124 l := by
  refine ⟨fun t e => ?_, fun t e => ?_, fun t e => ?_⟩ <;> (subst e; revert h; simp only [begB]; decide)
theorem atom_beg {l l1 : List UInt8} {a : Ex} (h : PX .atom l (.ok a l1)) : begB l = true := by
  cases h with
  | dot => rfl
  | cls => rfl
  | eps => rfl
  | round => rfl
  | sign h1 h2 h3 h4 =>
    cases l with
    | nil => simp [sgn] at h4
    | cons c t =>
      by_cases hc : c = 92
      · subst hc; rfl
      · rw [sgn_own c t hc] at h4
        by_cases ho : ownB c = true
        · simp [begB, ho]
        · rw [if_neg ho] at h4; cases h4
def RowM (m : List UInt8) (parts : List Ex) (l : List UInt8) : Prop :=
  (parts = [] ∧ m = l) ∨ ∃ ps p a l' l1, parts = ps ++ [p] ∧ RowSt m ps l' ∧ (ps = [] ∨ begB l' = true) ∧ PX .atom l' (.ok a l1) ∧ stars a l1 = stars p l
theorem RowM.st {m l : List UInt8} {parts : List Ex} (h : RowM m parts l) (h42 : NotAt 42 l) : RowSt m parts l := by
  rcases h with ⟨rfl, rfl⟩ | ⟨ps, p, a, l', l1, rfl, hst, hc, ha, hs⟩
  · exact RowSt.start _
  · exact hst.step hc ha (by rw [hs, stars_stop p h42])
theorem RowM.add {m l l1 : List UInt8} {parts : List Ex} {a : Ex} (h : RowM m parts l) (ha : PX .atom l (.ok a l1)) : RowM m (parts ++ [a]) l1 :=
  .inr ⟨parts, a, a, l, l1, rfl, h.st (beg_not (atom_beg ha)).1, .inr (atom_beg ha), ha, rfl⟩
theorem RowM.star {m l : List UInt8} {ps : List Ex} {p : Ex} (h : RowM m (ps ++ [p]) (42 :: l)) : RowM m (ps ++ [.star p]) l := by
  rcases h with ⟨e, _⟩ | ⟨ps', p', a, l', l1, e, hst, hc, ha, hs⟩
  · simp at e
  · obtain ⟨rfl, e⟩ := List.append_inj' e rfl; simp at e; subst e; exact .inr ⟨ps, _, a, l', l1, rfl, hst, hc, ha, by rw [hs, stars_42]⟩
def LvSt (m0 : List UInt8) (lv : Lv) (l : List UInt8) : Prop :=
  (∃ m, AltSt m0 lv.rows m ∧ RowM m lv.parts l ∧ (lv.rows = [] → m = m0)) ∧ ((lv.rows = [] ∧ lv.parts = []) ∨ NotAt 41 m0)
theorem LvSt.empty {m0 l : List UInt8} {lv : Lv} (h : LvSt m0 lv l) (hr : lv.rows = []) (hp : lv.parts = []) : m0 = l := by
  obtain ⟨⟨m, _, h2, h3⟩, _⟩ := h
  rcases h2 with ⟨_, e⟩ | ⟨ps, p, a, l', l1, e, _⟩
  · rw [← h3 hr, e]
  · rw [hp] at e; simp at e
theorem LvSt.start (l : List UInt8) : LvSt l ⟨[], []⟩ l := ⟨⟨l, AltSt.start _, .inl ⟨rfl, rfl⟩, fun _ => rfl⟩, .inl ⟨rfl, rfl⟩⟩
theorem LvSt.add {m0 l l1 : List UInt8} {lv : Lv} {a : Ex} (h : LvSt m0 lv l) (ha : PX .atom l (.ok a l1)) : LvSt m0 ⟨lv.rows, lv.parts ++ [a]⟩ l1 := by
  have h' := h; obtain ⟨⟨m, h1, h2, h3⟩, h4⟩ := h; refine ⟨⟨m, h1, h2.add ha, h3⟩, .inr ?_⟩
  rcases h4 with ⟨e1, e2⟩ | h4
  · rw [h'.empty e1 e2]; exact (beg_not (atom_beg ha)).2.1
  · exact h4
theorem LvSt.star {m0 l : List UInt8} {rows ps : List Ex} {p : Ex} (h : LvSt m0 ⟨rows, ps ++ [p]⟩ (42 :: l)) : LvSt m0 ⟨rows, ps ++ [.star p]⟩ l := by
  obtain ⟨⟨m, h1, h2, h3⟩, h4⟩ := h; refine ⟨⟨m, h1, h2.star, h3⟩, .inr ?_⟩
  rcases h4 with ⟨_, e⟩ | h4
  · simp at e
  · exact h4
theorem LvSt.row {m0 l : List UInt8} {lv : Lv} (h : LvSt m0 lv l) (hp : lv.parts ≠ []) (h42 : NotAt 42 l) (hb : begB l = false) :
    NotAt 41 m0 ∧ ∃ m, AltSt m0 lv.rows m ∧ PX .row m (.ok (foldE .seq lv.parts) l) := by
  obtain ⟨⟨m, h1, h2, h3⟩, h4⟩ := h; refine ⟨?_, m, h1, (h2.st h42).2 hp hb⟩
  rcases h4 with ⟨_, e⟩ | h4
  · exact absurd e hp
  · exact h4
theorem beg_124 (l : List UInt8) : begB (124 :: l) = false := by simp only [begB]; decide
theorem beg_41 (l : List UInt8) : begB (41 :: l) = false := by simp only [begB]; decide
theorem LvSt.bar {m0 l : List UInt8} {lv : Lv} (h : LvSt m0 lv (124 :: l)) (hp : lv.parts ≠ []) : LvSt m0 ⟨lv.rows ++ [foldE .seq lv.parts], []⟩ l := by
  obtain ⟨h4, m, h1, h2⟩ := h.row hp (notAt_cons (by decide)) (beg_124 l); exact ⟨⟨l, h1.step h2, .inl ⟨rfl, rfl⟩, fun e => by simp at e⟩, .inr h4⟩
theorem LvSt.done {m0 l : List UInt8} {lv : Lv} (h : LvSt m0 lv l) (hp : lv.parts ≠ []) (h42 : NotAt 42 l) (hb : begB l = false) (h124 : NotAt 124 l) : NotAt 41 m0 ∧ PX .alt m0 (.ok (foldE .alt (lv.rows ++ [foldE .seq lv.parts])) l) := by
  obtain ⟨h4, m, h1, h2⟩ := h.row hp h42 hb; exact ⟨h4, h1.last h2 h124⟩
theorem LvSt.bad {m0 l r : List UInt8} {lv : Lv} (h : LvSt m0 lv l) (ha : PX .atom l (.bad r)) (hc : lv.parts = [] ∨ begB l = true) : PX .alt m0 (.bad r) := by
  obtain ⟨⟨m, h1, h2, h3⟩, h4⟩ := h
  rcases hc with hc | hc
  · rcases h2 with ⟨_, rfl⟩ | ⟨ps, p, a, l', l1, e, _⟩
    · exact h1.bad (PX.rowBad ha)
    · rw [hc] at e; simp at e
  · exact h1.bad ((h2.st (beg_not hc).1).bad (.inr hc) ha)
inductive StkSt (l0 : List UInt8) : List Lv → Lv → List UInt8 → Prop
  | base {lv : Lv} {l : List UInt8} : LvSt l0 lv l → StkSt l0 [] lv l
  | push {low : List Lv} {lv lv' : Lv} {l m0 : List UInt8} : StkSt l0 low lv' (40 :: m0) → LvSt m0 lv l → StkSt l0 (low ++ [lv']) lv l
theorem StkSt.start (l : List UInt8) : StkSt l [] ⟨[], []⟩ l := .base (LvSt.start l)
theorem StkSt.open {l0 l : List UInt8} {low : List Lv} {lv : Lv} (h : StkSt l0 low lv (40 :: l)) : StkSt l0 (low ++ [lv]) ⟨[], []⟩ l := .push h (LvSt.start l)
theorem StkSt.turn {l0 l l' : List UInt8} {low : List Lv} {lv lv' : Lv} (h : StkSt l0 low lv l) (hi : ∀ m0, LvSt m0 lv l → LvSt m0 lv' l') : StkSt l0 low lv' l' := by
  cases h with
  | base h => exact .base (hi _ h)
  | push h1 h2 => exact .push h1 (hi _ h2)
theorem StkSt.add {l0 l l1 : List UInt8} {low : List Lv} {lv : Lv} {a : Ex} (h : StkSt l0 low lv l) (ha : PX .atom l (.ok a l1)) : StkSt l0 low ⟨lv.rows, lv.parts ++ [a]⟩ l1 := h.turn fun _ k => k.add ha
theorem StkSt.star {l0 l : List UInt8} {low : List Lv} {rows ps : List Ex} {p : Ex} (h : StkSt l0 low ⟨rows, ps ++ [p]⟩ (42 :: l)) : StkSt l0 low ⟨rows, ps ++ [.star p]⟩ l := h.turn fun _ k => k.star
theorem StkSt.bar {l0 l : List UInt8} {low : List Lv} {lv : Lv} (h : StkSt l0 low lv (124 :: l)) (hp : lv.parts ≠ []) : StkSt l0 low ⟨lv.rows ++ [foldE .seq lv.parts], []⟩ l := h.turn fun _ k => k.bar hp
theorem snoc_inj {α : Type} {a b : List α} {x y : α} (h : a ++ [x] = b ++ [y]) : a = b ∧ x = y := by
  obtain ⟨h1, h2⟩ := List.append_inj' h rfl; simp at h2; exact ⟨h1, h2⟩
theorem StkSt.pop {l0 l : List UInt8} {low : List Lv} {lv lv' : Lv} (h : StkSt l0 (low ++ [lv']) lv l) : ∃ m0, StkSt l0 low lv' (40 :: m0) ∧ LvSt m0 lv l := by
  generalize hq : low ++ [lv'] = q at h
  cases h with
  | base => simp at hq
  | push h1 h2 =>
    obtain ⟨rfl, rfl⟩ := snoc_inj hq; exact ⟨_, h1, h2⟩
theorem StkSt.close {l0 l : List UInt8} {low : List Lv} {lv lv' : Lv} (h : StkSt l0 (low ++ [lv']) lv (41 :: l)) (hp : lv.parts ≠ []) : StkSt l0 low ⟨lv'.rows, lv'.parts ++ [foldE .alt (lv.rows ++ [foldE .seq lv.parts])]⟩ l := by
  obtain ⟨m0, h1, h2⟩ := h.pop; obtain ⟨h3, h4⟩ := h2.done hp (notAt_cons (by decide)) (beg_41 l) (notAt_cons (by decide)); exact h1.add (PX.round h3 h4)
theorem StkSt.closeE {l0 l : List UInt8} {low : List Lv} {lv lv' : Lv} (h : StkSt l0 (low ++ [lv']) lv (41 :: l)) (hr : lv.rows = []) (hp : lv.parts = []) : StkSt l0 low ⟨lv'.rows, lv'.parts ++ [.eps]⟩ l := by
  obtain ⟨m0, h1, h2⟩ := h.pop; obtain rfl := h2.empty hr hp; exact h1.add (PX.eps l)
theorem StkSt.atomBad {l0 l r : List UInt8} {low : List Lv} {lv : Lv} (h : StkSt l0 low lv l) : PX .atom l (.bad r) → (lv.parts = [] ∨ begB l = true) → (NotAt 41 l ∨ low = [] ∨ ¬(lv.rows = [] ∧ lv.parts = [])) → PX .alt l0 (.bad r) := by
  induction h with
  | base h => intro ha hc _; exact h.bad ha hc
  | @push low lv lv' l m0 h1 h2 ih =>
    intro ha hc hn; have hb := h2.bad ha hc
    have h41 : NotAt 41 m0 := by
      rcases h2.2 with ⟨e1, e2⟩ | h4
      · rcases hn with hn | hn | hn
        · rw [h2.empty e1 e2]; exact hn
        · simp at hn
        · exact absurd ⟨e1, e2⟩ hn
      · exact h4
    exact ih (PX.roundBad h41 hb) (.inr rfl) (.inl (notAt_cons (by decide)))
def Ref (l0 r : List UInt8) : Prop := PX .alt l0 (.bad r) ∨ ∃ e, r ≠ [] ∧ PX .alt l0 (.ok e r)
theorem StkSt.ended {l0 l : List UInt8} {low : List Lv} {lv : Lv} (h : StkSt l0 low lv l) (hp : lv.parts ≠ []) (h42 : NotAt 42 l) (hb : begB l = false) (h124 : NotAt 124 l) (hl : (low = [] ∧ l ≠ []) ∨ (low ≠ [] ∧ NotAt 41 l)) : Ref l0 l := by
  cases h with
  | base h =>
    obtain ⟨_, h4⟩ := h.done hp h42 hb h124
    rcases hl with ⟨_, h5⟩ | ⟨h5, _⟩
    · exact .inr ⟨_, h5, h4⟩
    · exact absurd rfl h5
  | push h1 h2 =>
    obtain ⟨h3, h4⟩ := h2.done hp h42 hb h124
    rcases hl with ⟨h5, _⟩ | ⟨_, h5⟩
    · simp at h5
    · exact .inl (h1.atomBad (PX.roundNo h3 h4 h5) (.inr rfl) (.inl (notAt_cons (by decide))))
theorem StkSt.signBad {l0 l r : List UInt8} {low : List Lv} {lv : Lv} (h : StkSt l0 low lv l) (hne : l ≠ []) (h46 : NotAt 46 l) (h91 : NotAt 91 l) (h40 : NotAt 40 l) (h41 : NotAt 41 l) (h42 : NotAt 42 l) (h124 : NotAt 124 l) (hs : sgn l = .bad r) : Ref l0 r := by
  by_cases hc : lv.parts = [] ∨ begB l = true
  · exact .inl (h.atomBad (PX.signBad h46 h91 h40 hs) hc (.inl h41))
  · have h1 : lv.parts ≠ [] := fun e => hc (.inl e)
    have h2 : begB l = false := by
      cases hb : begB l with
      | false => rfl
      | true => exact absurd (.inr hb) hc
    have : r = l := by
      cases l with
      | nil => exact absurd rfl hne
      | cons c t =>
        (have hc92 : c ≠ 92 := fun e => by subst e; cases h2); rw [sgn_own c t hc92] at hs; (have ho : ¬ ownB c = true := fun e => by simp [begB, e] at h2); rw [if_neg ho] at hs
        cases hs; rfl
    subst this; refine h.ended h1 h42 h2 h124 ?_
    by_cases hl : low = []
    · exact .inl ⟨hl, hne⟩
    · exact .inr ⟨hl, h41⟩
theorem sgn_bad_cons (c : UInt8) (l : List UInt8) (h : c ≠ 92) (ho : ownB c = false) : sgn (c :: l) = .bad (c :: l) := by
  rw [sgn_own c l h, ho]; rfl
theorem StkSt.bare {l0 l : List UInt8} {low : List Lv} {lv : Lv} (h : StkSt l0 low lv l) (hp : lv.parts = []) (h46 : NotAt 46 l) (h91 : NotAt 91 l) (h40 : NotAt 40 l) (hs : sgn l = .bad l) (hn : NotAt 41 l ∨ low = [] ∨ lv.rows ≠ []) : Ref l0 l :=
  .inl (h.atomBad (PX.signBad h46 h91 h40 hs) (.inl hp) (by
    rcases hn with hn | hn | hn
    · exact .inl hn
    · exact .inr (.inl hn)
    · exact .inr (.inr fun e => hn e.1)))
open Go.RowKit
theorem kind_emp {e : Ex} {k : Nat} {s : Ws} {ks : List Rx} (h : e.rx = .node k s ks) : ((k : Int) == 1) = e.isEmp := by
  cases e <;> (simp only [Ex.rx] at h; injection h with h1 h2 h3; subst h1; rfl)
theorem kind_eps {e : Ex} {k : Nat} {s : Ws} {ks : List Rx} (h : e.rx = .node k s ks) : ((k : Int) == 2) = e.isEps := by
  cases e <;> (simp only [Ex.rx] at h; injection h with h1 h2 h3; subst h1; rfl)
theorem kind_seq {e : Ex} {k : Nat} {s : Ws} {ks : List Rx} (h : e.rx = .node k s ks) : ((k : Int) == 4) = e.isSeq := by
  cases e <;> (simp only [Ex.rx] at h; injection h with h1 h2 h3; subst h1; rfl)
theorem kind_alt {e : Ex} {k : Nat} {s : Ws} {ks : List Rx} (h : e.rx = .node k s ks) : ((k : Int) == 5) = e.isAlt := by
  cases e <;> (simp only [Ex.rx] at h; injection h with h1 h2 h3; subst h1; rfl)
theorem kind_star {e : Ex} {k : Nat} {s : Ws} {ks : List Rx} (h : e.rx = .node k s ks) : ((k : Int) == 6) = e.isStar := by
  cases e <;> (simp only [Ex.rx] at h; injection h with h1 h2 h3; subst h1; rfl)
theorem kind_cls {e : Ex} {k : Nat} {s : Ws} {ks : List Rx} (h : e.rx = .node k s ks) : ((k : Int) == 3) = e.isCls := by
  cases e <;> (simp only [Ex.rx] at h; injection h with h1 h2 h3; subst h1; rfl)
theorem seqE_empty {a b : Ex} (h : b.isEmp = true) : seqE a b = .empty := by
  obtain rfl := isEmp_iff.1 h
  cases a <;> rfl
theorem seqE_eps {a b : Ex} (h1 : a.isEmp = false) (h2 : a.isEps = false) (h : b.isEps = true) : seqE a b = a := by
  obtain rfl := isEps_iff.1 h
  cases a <;> simp_all [Ex.isEmp, Ex.isEps, seqE, mkS]
theorem seqE_seq {c d b : Ex} (h1 : b.isEmp = false) (h2 : b.isEps = false) : seqE (.seq c d) b = seqE c (seqE d b) := by
  simp only [seqE, h1, h2]; rfl
set_option maxHeartbeats 8000000 in
set_option maxRecDepth 100000 in
theorem ref8seq (N : Nat) : ∀ (a : Ex), a.size ≤ N → ∀ (ok : Nat → Prop) (b : Ex) (v u : Value) (w : World), ReAt ok w v a.rx → ReAt ok w u b.rx →
    Calls Tryz.prog 45 #[v, u] w (ExPost ok (seqE a b) w) := by
  induction N with
  | zero => intro a hN; have := a.size_pos; omega
  | succ N ih =>
    intro a hN ok b v u w h h'; obtain ⟨ka, ⟨sa, sb, sc, sd⟩, ksa, hsa⟩ := rx_form a; obtain ⟨kb, ⟨ta, tb, tc, td⟩, ksb, hsb⟩ := rx_form b; have HA := Lib.hid h; have HB := Lib.hid h'; rw [hsa] at h; rw [hsb] at h'; obtain ⟨_, _, al, cap, rfl, hcap, _, hrow⟩ := h; obtain ⟨_, _, bl, bap, rfl, _, _, _⟩ := h'; simp only at HA HB ⊢; have k1a := kind_emp hsa; have k2a := kind_eps hsa; have k4a := kind_seq hsa; have k1b := kind_emp hsb; have k2b := kind_eps hsb; have KB := Lib.hid fun W => bare_any 1 W (by decide); rw [show (((1 : Nat) : Int)) = 1 from rfl] at KB
    cases q1 : a.isEmp with
    | true =>
      rw [q1] at k1a; rw [show seqE a b = .empty from by rw [isEmp_iff.1 q1]; rfl]; clear q1 hrow ih hN hsa hsb k2a k4a k1b k2b HA HB; have B := Lib.hid (Bn2.new w (.cells #[.int .u8 ka, .int .u64 sa, .int .u64 sb, .int .u64 sc, .int .u64 sd, .slice al ksa.length cap] 39) (.cells #[.int .u8 kb, .int .u64 ta, .int .u64 tb, .int .u64 tc, .int .u64 td, .slice bl ksb.length bap] 39)); go_enter Tryz.func45, Tryz.ntmps45; go_wp2_with fail; refine (KB.out _).mono ?_; rintro e w1 ⟨v1, rfl, hv1, hb1⟩; obtain ⟨p0, p1, p2, p3, p4, pl, pn, pc, rfl⟩ := cells_re hv1; have B1 := Lib.hid (B.out.go hb1); have HV := Lib.hid (leaf_any (ok' := okN ok w.heap.size) w1 hv1); clear hv1 hb1 B; obtain ⟨c0, c1, c2, c3, c4, c5, f0, f1, f2, f3, f4, f5⟩ := cellsR B1.out.2.2.1; go_wp2; exact ret_ex (e := .empty) B1.out.2.2.1 HV.out B1.out.2.2.2 (by omega) Tryz.results45 rfl rfl
    | false =>
    rw [q1] at k1a
    cases q2 : b.isEmp with
    | true =>
      rw [q2] at k1b; rw [seqE_empty q2]; clear q1 q2 hrow ih hN hsa hsb k2a k4a k2b HA HB; have B := Lib.hid (Bn2.new w (.cells #[.int .u8 ka, .int .u64 sa, .int .u64 sb, .int .u64 sc, .int .u64 sd, .slice al ksa.length cap] 39) (.cells #[.int .u8 kb, .int .u64 ta, .int .u64 tb, .int .u64 tc, .int .u64 td, .slice bl ksb.length bap] 39)); go_enter Tryz.func45, Tryz.ntmps45; go_wp2_with fail; refine (KB.out _).mono ?_; rintro e w1 ⟨v1, rfl, hv1, hb1⟩; obtain ⟨p0, p1, p2, p3, p4, pl, pn, pc, rfl⟩ := cells_re hv1; have B1 := Lib.hid (B.out.go hb1); have HV := Lib.hid (leaf_any (ok' := okN ok w.heap.size) w1 hv1); clear hv1 hb1 B; obtain ⟨c0, c1, c2, c3, c4, c5, f0, f1, f2, f3, f4, f5⟩ := cellsR B1.out.2.2.1; go_wp2; exact ret_ex (e := .empty) B1.out.2.2.1 HV.out B1.out.2.2.2 (by omega) Tryz.results45 rfl rfl
    | false =>
    rw [q2] at k1b
    cases q3 : a.isEps with
    | true =>
      rw [q3] at k2a; rw [show seqE a b = b from by rw [isEps_iff.1 q3]; rfl]; clear q1 q2 q3 hrow ih hN hsa hsb k4a k2b HA KB; have B := Lib.hid (Bn2.new w (.cells #[.int .u8 ka, .int .u64 sa, .int .u64 sb, .int .u64 sc, .int .u64 sd, .slice al ksa.length cap] 39) (.cells #[.int .u8 kb, .int .u64 ta, .int .u64 tb, .int .u64 tc, .int .u64 td, .slice bl ksb.length bap] 39)); go_enter Tryz.func45, Tryz.ntmps45; go_wp2; exact ret_re (blk_at _ _ (by simp)) Tryz.results45 rfl rfl ⟨_, rfl, (HB.out.below (al3 w _ _ _)).imp fun _ _ h => Or.inl h, al3 w _ _ _⟩
    | false =>
    rw [q3] at k2a
    cases q4 : b.isEps with
    | true =>
      rw [q4] at k2b; rw [seqE_eps q1 q3 q4]; clear q1 q2 q3 q4 hrow ih hN hsa hsb k4a HB KB; have B := Lib.hid (Bn2.new w (.cells #[.int .u8 ka, .int .u64 sa, .int .u64 sb, .int .u64 sc, .int .u64 sd, .slice al ksa.length cap] 39) (.cells #[.int .u8 kb, .int .u64 ta, .int .u64 tb, .int .u64 tc, .int .u64 td, .slice bl ksb.length bap] 39)); go_enter Tryz.func45, Tryz.ntmps45; go_wp2; exact ret_re (blk_at _ _ (by simp)) Tryz.results45 rfl rfl ⟨_, rfl, (HA.out.below (al3 w _ _ _)).imp fun _ _ h => Or.inl h, al3 w _ _ _⟩
    | false =>
    rw [q4] at k2b
    cases q5 : a.isSeq with
    | false =>
      rw [q5] at k4a; rw [seqE_plain q1 q3 q5 q2 q4]; have KT := Lib.hid fun W (hb : Below w.heap.size w W) => two_any 4 a.rx b.rx _ _ W (by decide) (HA.out.below hb) (HB.out.below hb); rw [show (((4 : Nat) : Int)) = 4 from rfl] at KT; clear q1 q2 q3 q4 q5 hrow ih hN hsa hsb HA HB KB; have B := Lib.hid (Bn2.new w (.cells #[.int .u8 ka, .int .u64 sa, .int .u64 sb, .int .u64 sc, .int .u64 sd, .slice al ksa.length cap] 39) (.cells #[.int .u8 kb, .int .u64 ta, .int .u64 tb, .int .u64 tc, .int .u64 td, .slice bl ksb.length bap] 39)); go_enter Tryz.func45, Tryz.ntmps45; go_wp2_with fail; refine (KT.out _ B.out.2.2.2).mono ?_; rintro e w1 ⟨v1, rfl, hv1, hb1⟩; obtain ⟨p0, p1, p2, p3, p4, pl, pn, pc, rfl⟩ := cells_re hv1; have B1 := Lib.hid (B.out.go hb1)
      have HV := Lib.hid (show ReAt (okN ok w.heap.size) w1 (.agg #[.int .u8 p0, .int .u64 p1, .int .u64 p2, .int .u64 p3, .int .u64 p4, .slice pl pn pc]) (Ex.seq a b).rx from hv1.imp fun b _ h => by
        rcases h with h | h
        · exact .inl h
        · exact .inr (Nat.le_trans B.out.2.2.2.size h))
      clear hv1 hb1 B; obtain ⟨c0, c1, c2, c3, c4, c5, f0, f1, f2, f3, f4, f5⟩ := cellsR B1.out.2.2.1; go_wp2; exact ret_ex (e := .seq a b) B1.out.2.2.1 HV.out B1.out.2.2.2 (by omega) Tryz.results45 rfl rfl
    | true =>
      rw [q5] at k4a
      cases a with
      | empty => cases q5
      | eps => cases q5
      | cls s => cases q5
      | alt c d => cases q5
      | star c => cases q5
      | seq c d =>
      rw [seqE_seq q2 q4]; simp only [Ex.rx] at hsa; injection hsa with e1 e2 e3; subst e1; subst e3; obtain ⟨bk, off, rfl, hlt, hn0⟩ := hrow.kid (i := 0) (by simp); simp only [List.getElem_cons_zero, Nat.zero_mul, Nat.add_zero] at hn0; obtain ⟨bk', off', e', hlt', hn1⟩ := hrow.kid (i := 1) (by simp); simp at e'; obtain ⟨rfl, rfl⟩ := e'; simp only [List.getElem_cons_zero, List.getElem_cons_succ, Nat.one_mul] at hn1; (have hcap2 : 2 ≤ cap := by simpa using hcap); obtain ⟨kc, ⟨ca, cb, cc, cd⟩, ksc, hsc⟩ := rx_form c; obtain ⟨kd, ⟨da, db, dc, dd⟩, ksd, hsd⟩ := rx_form d; rw [hsc] at hn0; rw [hsd] at hn1; obtain ⟨al0, cap0, ⟨i0, i1, i2, i3, i4, i5⟩, hrc⟩ := hn0.read; obtain ⟨al1, cap1, ⟨j0, j1, j2, j3, j4, j5⟩, hrd⟩ := hn1.read; simp only at i0 i1 i2 i3 i4 i5 j0 j1 j2 j3 j4 j5; rw [← hsc] at hrc; rw [← hsd] at hrd; have ic := ih c (by simp only [Ex.size] at hN; omega); have id' := ih d (by simp only [Ex.size] at hN; omega); have KD0 := Lib.hid fun W (hb : Below w.heap.size w W) => id' (okN ok w.heap.size) b _ _ W ((hrd.below hb).imp fun _ _ h => .inl h) ((HB.out.below hb).imp fun _ _ h => .inl h); have KC0 := Lib.hid fun W (hb : Below w.heap.size w W) (u' : Value) (hu : ReAt (okN ok w.heap.size) W u' (seqE d b).rx) => ic (okN ok w.heap.size) (seqE d b) _ u' W ((hrc.below hb).imp fun _ _ h => .inl h) hu; have I6 := Lib.hid (show w.cell? ⟨bk, off, none⟩ = some (.int .u8 kc) ∧ w.cell? ⟨bk, off + 1, none⟩ = some (.int .u64 ca) ∧ w.cell? ⟨bk, off + 2, none⟩ = some (.int .u64 cb) ∧ w.cell? ⟨bk, off + 3, none⟩ = some (.int .u64 cc) ∧ w.cell? ⟨bk, off + 4, none⟩ = some (.int .u64 cd) ∧ w.cell? ⟨bk, off + 5, none⟩ = some (.slice al0 ksc.length cap0) from ⟨i0, i1, i2, i3, i4, i5⟩); have J6 := Lib.hid (show w.cell? ⟨bk, off + 6, none⟩ = some (.int .u8 kd) ∧ w.cell? ⟨bk, off + 6 + 1, none⟩ = some (.int .u64 da) ∧ w.cell? ⟨bk, off + 6 + 2, none⟩ = some (.int .u64 db) ∧ w.cell? ⟨bk, off + 6 + 3, none⟩ = some (.int .u64 dc) ∧ w.cell? ⟨bk, off + 6 + 4, none⟩ = some (.int .u64 dd) ∧ w.cell? ⟨bk, off + 6 + 5, none⟩ = some (.slice al1 ksd.length cap1) from ⟨j0, j1, j2, j3, j4, j5⟩); have hlen : [c.rx, d.rx].length = 2 := rfl; rw [hlen, show (((4 : Nat) : Int)) = 4 from rfl]; clear k1a k2a k4a hlen i0 i1 i2 i3 i4 i5 j0 j1 j2 j3 j4 j5 q1 q2 q3 q4 q5 hrow ih ic id' hN hsb hsc hsd HA HB KB hn0 hn1 hrc hrd hcap e2; have B := Lib.hid (Bn2.new w (.cells #[.int .u8 4, .int .u64 sa, .int .u64 sb, .int .u64 sc, .int .u64 sd, .slice (some ⟨bk, off, none⟩) 2 cap] 39) (.cells #[.int .u8 kb, .int .u64 ta, .int .u64 tb, .int .u64 tc, .int .u64 td, .slice bl ksb.length bap] 39)); go_enter Tryz.func45, Tryz.ntmps45; go_wp2_with fail; obtain ⟨W, hW⟩ : ∃ x, x = ((w.alloc (.cells #[.int .u8 4, .int .u64 sa, .int .u64 sb, .int .u64 sc, .int .u64 sd, .slice (some ⟨bk, off, none⟩) 2 cap] 39)).alloc (.cells #[.int .u8 kb, .int .u64 ta, .int .u64 tb, .int .u64 tc, .int .u64 td, .slice bl ksb.length bap] 39)).alloc (.cells #[.int .u8 0, .int .u64 0, .int .u64 0, .int .u64 0, .int .u64 0, .slice none 0 0] 39) := ⟨_, rfl⟩; rw [← hW] at B ⊢; clear hW; have WX := Lib.hid fun x (hx : Below W.heap.size W x) => (B.out.go hx).2.2.2.size; have CX := Lib.hid fun x (hx : Below W.heap.size W x) => (cellsR (B.out.go hx).1).2.2.2.2.2.1; have CB := Lib.hid fun x (hx : Below W.heap.size W x) => cellsR (B.out.go hx).2.1; have CC := Lib.hid fun x (hx : Below W.heap.size W x) => six_keep hlt I6.out (B.out.go hx).2.2.2; have CD := Lib.hid fun x (hx : Below W.heap.size W x) => six_keep hlt J6.out (B.out.go hx).2.2.2; have KD := Lib.hid fun x (hx : Below W.heap.size W x) => KD0.out x (B.out.go hx).2.2.2; have KC := Lib.hid fun x (hx : Below W.heap.size W x) => KC0.out x (B.out.go hx).2.2.2; refine wp_region_orderT 11 (fun i => ([SP.eq (.pointer (some ⟨w.heap.size, 5, none⟩)), SP.eq (.slice (some ⟨bk, off, none⟩) 2 cap), SP.eq (.pointer (some ⟨bk, off, none⟩)), SP.eq (.agg #[.int .u8 kc, .int .u64 ca, .int .u64 cb, .int .u64 cc, .int .u64 cd, .slice al0 ksc.length cap0]), SP.eq (.pointer (some ⟨w.heap.size, 5, none⟩)), SP.eq (.slice (some ⟨bk, off, none⟩) 2 cap), SP.eq (.pointer (some ⟨bk, off + 6, none⟩)), SP.eq (.agg #[.int .u8 kd, .int .u64 da, .int .u64 db, .int .u64 dc, .int .u64 dd, .slice al1 ksd.length cap1]), SP.eq (.agg #[.int .u8 kb, .int .u64 ta, .int .u64 tb, .int .u64 tc, .int .u64 td, .slice bl ksb.length bap]), SP.ex (okN ok w.heap.size) (seqE d b), SP.ex (okN ok w.heap.size) (seqE c (seqE d b))] : List SP).getD i SP.free) (fun _ => false) (fun _ _ _ h => by cases h) (by kernel_rfl) (by kernel_rfl) ⟨?_, ?_, ?_, ?_, ?_, ?_, ?_, ?_, ?_, ?_, ?_, trivial⟩ ?_
      · intro a x K out get hb hK; rw [if_pos (wanted_none rfl)]; have o2 : a.tmps[2]? = some (.pointer (some ⟨w.heap.size, 0, none⟩)) := out 2 (by kernel_rfl); clear out get; go_simp; exact hK _ _ rfl (Below.refl _ _) (fun h => by cases h)
      · intro a x K out get hb hK; rw [if_pos (wanted_none rfl)]; obtain ⟨y25, hy25, rfl⟩ := get 0 _ _ rfl rfl (by kernel_rfl); clear out get; have hk5 := CX.out x hb; go_simp; exact hK _ _ rfl (Below.refl _ _) (fun h => by cases h)
      · intro a x K out get hb hK; rw [if_pos (wanted_none rfl)]; obtain ⟨y26, hy26, rfl⟩ := get 1 _ _ rfl rfl (by kernel_rfl); clear out get; go_simp; exact hK _ _ rfl (Below.refl _ _) (fun h => by cases h)
      · intro a x K out get hb hK; rw [if_pos (wanted_none rfl)]; obtain ⟨y27, hy27, rfl⟩ := get 2 _ _ rfl rfl (by kernel_rfl); clear out get; obtain ⟨c0, c1, c2, c3, c4, c5⟩ := CC.out x hb; go_simp; exact hK _ _ rfl (Below.refl _ _) (fun h => by cases h)
      · intro a x K out get hb hK; rw [if_pos (wanted_none rfl)]; have o2 : a.tmps[2]? = some (.pointer (some ⟨w.heap.size, 0, none⟩)) := out 2 (by kernel_rfl); clear out get; go_simp; exact hK _ _ rfl (Below.refl _ _) (fun h => by cases h)
      · intro a x K out get hb hK; rw [if_pos (wanted_none rfl)]; obtain ⟨y29, hy29, rfl⟩ := get 4 _ _ rfl rfl (by kernel_rfl); clear out get; have hk5 := CX.out x hb; go_simp; exact hK _ _ rfl (Below.refl _ _) (fun h => by cases h)
      · intro a x K out get hb hK; rw [if_pos (wanted_none rfl)]; obtain ⟨y30, hy30, rfl⟩ := get 5 _ _ rfl rfl (by kernel_rfl); clear out get; go_simp; exact hK _ _ rfl (Below.refl _ _) (fun h => by cases h)
      · intro a x K out get hb hK; rw [if_pos (wanted_none rfl)]; obtain ⟨y31, hy31, rfl⟩ := get 6 _ _ rfl rfl (by kernel_rfl); clear out get; obtain ⟨c0, c1, c2, c3, c4, c5⟩ := CD.out x hb; go_simp; exact hK _ _ rfl (Below.refl _ _) (fun h => by cases h)
      · intro a x K out get hb hK; rw [if_pos (wanted_none rfl)]; have o3 : a.tmps[3]? = some (.pointer (some ⟨w.heap.size + 1, 0, none⟩)) := out 3 (by kernel_rfl); obtain ⟨c0, c1, c2, c3, c4, c5, -⟩ := CB.out x hb; clear out get; go_simp; exact hK _ _ rfl (Below.refl _ _) (fun h => by cases h)
      · intro a x K out get hb hK; rw [if_pos (wanted_none rfl)]; obtain ⟨y32, hy32, rfl⟩ := get 7 _ _ rfl rfl (by kernel_rfl); obtain ⟨y33, hy33, rfl⟩ := get 8 _ _ rfl rfl (by kernel_rfl); clear out get; go_simp; refine (KD.out x hb).mono ?_; rintro e w2 ⟨v2, rfl, hv2, hb2⟩; exact hK _ _ (ExV.of hv2 (okN_in (WX.out x hb))) hb2 (fun h => by cases h)
      · intro a x K out get hb hK; rw [if_pos (wanted_none rfl)]; obtain ⟨y28, hy28, rfl⟩ := get 3 _ _ rfl rfl (by kernel_rfl); obtain ⟨y34, hy34, ⟨p0, p1, p2, p3, p4, pl, pn, pc, rfl, hr34⟩⟩ := get 9 _ _ rfl rfl (by kernel_rfl); clear out get; go_simp; refine (KC.out x hb _ hr34).mono ?_; rintro e w2 ⟨v2, rfl, hv2, hb2⟩; exact hK _ _ (ExV.of hv2 (okN_in (WX.out x hb))) hb2 (fun h => by cases h)
      refine ao_finT (isD := fun s => decide (25 ≤ s) && decide (s ≤ 35)) (by kernel_rfl) ?_; intro f x hv hne hb; clear hne; obtain ⟨p0, p1, p2, p3, p4, pl, pn, pc, e35, r35⟩ := hv 10 _ _ (by decide) rfl rfl; have B2 := Lib.hid (B.out.go hb); have HV := Lib.hid r35; obtain ⟨c0, c1, c2, c3, c4, c5, f0, f1, f2, f3, f4, f5⟩ := cellsR B2.out.2.2.1; clear hv hb r35; simp only [frm, List.drop_succ_cons, List.drop_zero]; simp; rw [e35]; generalize f 25 = u25 at *; generalize f 26 = u26 at *; generalize f 27 = u27 at *; generalize f 28 = u28 at *; generalize f 29 = u29 at *; generalize f 30 = u30 at *; generalize f 31 = u31 at *; generalize f 32 = u32 at *; generalize f 33 = u33 at *; generalize f 34 = u34 at *; clear e35 f; go_wp2; exact ret_ex (e := seqE c (seqE d b)) B2.out.2.2.1 HV.out B2.out.2.2.2 (by omega) Tryz.results45 rfl rfl
theorem starE_star {a : Ex} (h : a.isStar = true) : starE a = a := by cases a <;> simp_all [Ex.isStar, starE]
theorem starE_plain {a : Ex} (h1 : a.isEmp = false) (h2 : a.isEps = false) (h3 : a.isStar = false) : starE a = .star a := by cases a <;> simp_all [Ex.isEmp, Ex.isEps, Ex.isStar, starE]
theorem starE_bare {a : Ex} (h : a.isEmp = true ∨ a.isEps = true) : starE a = .eps := by cases a <;> simp_all [Ex.isEmp, Ex.isEps, starE]
set_option maxHeartbeats 4000000 in
set_option maxRecDepth 100000 in
theorem ref8star (a : Ex) (ok : Nat → Prop) (v : Value) (w : World) (h : ReAt ok w v a.rx) : Calls Tryz.prog 47 #[v] w (ExPost ok (starE a) w) := by
    obtain ⟨ka, ⟨sa, sb, sc, sd⟩, ksa, hsa⟩ := rx_form a; have HA := Lib.hid h; rw [hsa] at h; obtain ⟨_, _, al, cap, rfl, hcap, _, hrow⟩ := h; simp only at HA ⊢; have k1a := kind_emp hsa; have k2a := kind_eps hsa; have k6a := kind_star hsa; have KB := Lib.hid fun W => bare_any 2 W (by decide); rw [show (((2 : Nat) : Int)) = 2 from rfl] at KB
    cases q1 : a.isEmp with
    | true =>
      rw [q1] at k1a; rw [starE_bare (.inl q1)]; clear q1 hrow hsa k2a k6a HA; have B := Lib.hid (Bn1.new w (.cells #[.int .u8 ka, .int .u64 sa, .int .u64 sb, .int .u64 sc, .int .u64 sd, .slice al ksa.length cap] 39)); go_enter Tryz.func47, Tryz.ntmps47; go_wp2_with fail; refine (KB.out _).mono ?_; rintro e w1 ⟨v1, rfl, hv1, hb1⟩; obtain ⟨p0, p1, p2, p3, p4, pl, pn, pc, rfl⟩ := cells_re hv1; have B1 := Lib.hid (B.out.go hb1); have HV := Lib.hid (leaf_any (ok' := okN ok w.heap.size) w1 hv1); clear hv1 hb1 B; obtain ⟨c0, c1, c2, c3, c4, c5, f0, f1, f2, f3, f4, f5⟩ := cellsR B1.out.2.1; go_wp2; exact ret_ex (e := .eps) B1.out.2.1 HV.out B1.out.2.2 (by omega) Tryz.results47 rfl rfl
    | false =>
    rw [q1] at k1a
    cases q2 : a.isEps with
    | true =>
      rw [q2] at k2a; rw [starE_bare (.inr q2)]; clear q1 q2 hrow hsa k6a HA; have B := Lib.hid (Bn1.new w (.cells #[.int .u8 ka, .int .u64 sa, .int .u64 sb, .int .u64 sc, .int .u64 sd, .slice al ksa.length cap] 39)); go_enter Tryz.func47, Tryz.ntmps47; go_wp2_with fail; refine (KB.out _).mono ?_; rintro e w1 ⟨v1, rfl, hv1, hb1⟩; obtain ⟨p0, p1, p2, p3, p4, pl, pn, pc, rfl⟩ := cells_re hv1; have B1 := Lib.hid (B.out.go hb1); have HV := Lib.hid (leaf_any (ok' := okN ok w.heap.size) w1 hv1); clear hv1 hb1 B; obtain ⟨c0, c1, c2, c3, c4, c5, f0, f1, f2, f3, f4, f5⟩ := cellsR B1.out.2.1; go_wp2; exact ret_ex (e := .eps) B1.out.2.1 HV.out B1.out.2.2 (by omega) Tryz.results47 rfl rfl
    | false =>
    rw [q2] at k2a
    cases q3 : a.isStar with
    | true =>
      rw [q3] at k6a; rw [starE_star q3]; clear q1 q2 q3 hrow hsa KB; have B := Lib.hid (Bn1.new w (.cells #[.int .u8 ka, .int .u64 sa, .int .u64 sb, .int .u64 sc, .int .u64 sd, .slice al ksa.length cap] 39)); go_enter Tryz.func47, Tryz.ntmps47; go_wp2; exact ret_re (blk_at _ _ (by simp)) Tryz.results47 rfl rfl ⟨_, rfl, (HA.out.below (al2 w _ _)).imp fun _ _ h => Or.inl h, al2 w _ _⟩
    | false =>
      rw [q3] at k6a; rw [starE_plain q1 q2 q3]; have KM := Lib.hid fun W (hb : Below w.heap.size w W) => many_any a.rx _ W (HA.out.below hb); clear q1 q2 q3 hrow hsa KB HA; have B := Lib.hid (Bn1.new w (.cells #[.int .u8 ka, .int .u64 sa, .int .u64 sb, .int .u64 sc, .int .u64 sd, .slice al ksa.length cap] 39)); go_enter Tryz.func47, Tryz.ntmps47; go_wp2_with fail; refine (KM.out _ B.out.2.2).mono ?_; rintro e w1 ⟨v1, rfl, hv1, hb1⟩; obtain ⟨p0, p1, p2, p3, p4, pl, pn, pc, rfl⟩ := cells_re hv1; have B1 := Lib.hid (B.out.go hb1)
      have HV := Lib.hid (show ReAt (okN ok w.heap.size) w1 (.agg #[.int .u8 p0, .int .u64 p1, .int .u64 p2, .int .u64 p3, .int .u64 p4, .slice pl pn pc]) (Ex.star a).rx from hv1.imp fun b _ h => by
        rcases h with h | h
        · exact .inl h
        · exact .inr (Nat.le_trans B.out.2.2.size h))
      clear hv1 hb1 B; obtain ⟨c0, c1, c2, c3, c4, c5, f0, f1, f2, f3, f4, f5⟩ := cellsR B1.out.2.1; go_wp2; exact ret_ex (e := .star a) B1.out.2.1 HV.out B1.out.2.2 (by omega) Tryz.results47 rfl rfl
open Go.RowKit
def onilBlk : Obj := .cells #[.int .u8 0, .int .u64 0, .int .u64 0, .int .u64 0, .int .u64 0, .slice none 0 0] 39
def oreBlk (k a b c d : Nat) (sl : Value) : Obj := .cells #[.int .u8 k, .int .u64 a, .int .u64 b, .int .u64 c, .int .u64 d, sl] 39
def ocloneInv (k a b c d : Nat) (sl : Value) (ks : List Rx) (w : World) (y : Value) (wr : World) : Prop := ∃ i : Nat, i ≤ ks.length ∧ y = .int .i64 i ∧
  wr.heap[w.heap.size]? = some (oreBlk k a b c d sl) ∧ wr.heap[w.heap.size + 1]? = some onilBlk ∧ Room wr (w.heap.size + 2) (ks.length * 6) ∧
  NodesAt (New (w.heap.size + 3)) wr (w.heap.size + 2) 0 (ks.take i) ∧ Below w.heap.size w wr
set_option maxHeartbeats 4000000 in
theorem oclone_any (N : Nat) : ∀ (r : Rx), r.size ≤ N → ∀ (ok : Nat → Prop) (v : Value) (w : World), ReAt ok w v r →
    Calls Tryz.prog 141 #[v] w (NewPost r w) := by
  induction N with
  | zero => intro r h; have := r.size_pos; omega
  | succ N ih =>
    rintro ⟨k, s, ks⟩ hN ok v w hR; obtain ⟨hk, hs, al, cap, rfl, hcap, hmax, hrow⟩ := hR; (have hN' : Rx.sizes ks ≤ N := by simp [Rx.size] at hN; omega); have IH := Lib.hid ih; have HR := Lib.hid hrow; obtain ⟨sa, sb, sc, sd⟩ := s; clear ih hrow hN
    by_cases hks : ks = []
    · subst hks; go_enter Tryz.func141, Tryz.ntmps141; go_wp2; refine ret_re (blk_at _ _ (by simp)) Tryz.results141 rfl rfl ⟨_, rfl, ?_, ((Below.refl _ w).alloc (Nat.le_refl _) _).alloc (by simp) _⟩; exact bareAt _ _ k ⟨sa, sb, sc, sd⟩ hk hs
    · have hpos : 0 < ks.length := List.length_pos_iff.2 hks; (have e0 : ((ks.length : Int) == 0) = false := by simp; omega); have hmk := make_re ks.length hmax; clear hks; go_enter Tryz.func141, Tryz.ntmps141; go_wp2
      go_loopw [19] (fun y wr => ocloneInv k sa sb sc sd (.slice al ks.length cap) ks w y wr) (fun y _ => ks.length - (intOf y).toNat)
      case atStart =>
        refine ⟨0, Nat.zero_le _, rfl, ?_, ?_, ?_, by simp only [List.take_zero]; unfold NodesAt; trivial, (((Below.refl _ w).alloc (Nat.le_refl _) _).alloc (by simp) _).alloc (by simp; omega) _⟩
        · exact (Below.heap_alloc _ _ _ (by simp; omega)).trans ((Below.heap_alloc _ _ _ (by simp)).trans (blk_new w _))
        · exact (Below.heap_alloc _ _ _ (by simp)).trans (blk_at _ _ (by simp))
        · have := room_made ((w.alloc (oreBlk k sa sb sc sd (.slice al ks.length cap))).alloc onilBlk) zeroR (ks.length * 6)
          simpa [oreBlk, onilBlk] using this
      case round =>
        obtain ⟨i, hi, rfl, hb0, hb1, hroom, hnodes, hb⟩ := hrel; have HB0 := Lib.hid hb0; have HB1 := Lib.hid hb1; have HN := Lib.hid hnodes; have HM := Lib.hid hroom; clear hb0 hb1 hnodes hroom
        by_cases hlt : i < ks.length
        · obtain ⟨b, off, hab, hblt, hnode⟩ := HR.out.kid hlt; subst hab; have hkid := NodeAt.below hb _ hblt hnode; have hkz := size_kid hlt; have htk : ks.take (i + 1) = ks.take i ++ [ks[i]] := List.take_succ_eq_append_getElem hlt; (have hlen : (ks.take i).length = i := by simp; omega); have HTK := Lib.hid htk; have HLEN := Lib.hid hlen; clear htk hlen; generalize ks[i] = kid at *; obtain ⟨k', ⟨ta, tb, tc, td⟩, ks'⟩ := kid; obtain ⟨al', cap', ⟨c0, c1, c2, c3, c4, c5⟩, hre⟩ := hkid.read; simp only at c0 c1 c2 c3 c4 c5; have HRE := Lib.hid hre; clear hkid hnode hre; go_wp2_with fail; refine (IH.out _ (by omega) ok _ _ (HRE.out.below ((Below.refl _ wr).alloc (Nat.le_refl _) _))).mono ?_; rintro e w3 ⟨v, rfl, hv, hb3⟩; obtain ⟨x0, x1, x2, x3, x4, bl, n', cp, rfl⟩ := cells_re hv; have hgk := HM.out.lt; have hbr : Below wr.heap.size wr w3 := ((Below.refl _ wr).alloc (Nat.le_refl _) _).trans (hb3.mono (by simp)); have hroom : Room w3 (w.heap.size + 1 + 1) (ks.length * 6) := HM.out.of (hbr.block _ hgk); have hnodes : NodesAt (New (w.heap.size + 3)) w3 (w.heap.size + 1 + 1) 0 (ks.take i) := NodesAt.below hbr _ hgk HN.out
          have hv3 := hv.imp (ok' := New (w.heap.size + 3)) fun b _ h => by
            unfold New at h ⊢; simp at h; omega
          have hlen := HLEN.out; have hpush := nodes_push hroom (by rw [hlen]; omega) (by unfold New; omega) hnodes hv3; rw [hlen, ← HTK.out] at hpush; have hput := (put6_at hroom (off := i * 6) (by omega) (.int .u8 x0) (.int .u64 x1) (.int .u64 x2) (.int .u64 x3) (.int .u64 x4) (.slice bl n' cp)).1; have hbp := put6_below (hb.trans (hbr.mono hb.size)) (g := w.heap.size + 1 + 1) (by omega) (i * 6) (.int .u8 x0) (.int .u64 x1) (.int .u64 x2) (.int .u64 x3) (.int .u64 x4) (.slice bl n' cp); have ho := fun b (h : b ≠ w.heap.size + 1 + 1) => put6_other w3 (w.heap.size + 1 + 1) (i * 6) (.int .u8 x0) (.int .u64 x1) (.int .u64 x2) (.int .u64 x3) (.int .u64 x4) (.slice bl n' cp) h; have h0 := (ho w.heap.size (by omega)).trans ((hbr.block _ (by omega)).trans HB0.out); have h1 := (ho (w.heap.size + 1) (by omega)).trans ((hbr.block _ (by omega)).trans HB1.out); obtain ⟨⟨z0, q0⟩, f0⟩ := hroom.cells (i * 6) (by omega); obtain ⟨⟨z1, q1⟩, f1⟩ := hroom.cells (i * 6 + 1) (by omega); obtain ⟨⟨z2, q2⟩, f2⟩ := hroom.cells (i * 6 + 2) (by omega); obtain ⟨⟨z3, q3⟩, f3⟩ := hroom.cells (i * 6 + 3) (by omega); obtain ⟨⟨z4, q4⟩, f4⟩ := hroom.cells (i * 6 + 4) (by omega); obtain ⟨⟨z5, q5⟩, f5⟩ := hroom.cells (i * 6 + 5) (by omega); unfold put6 at hpush hput hbp h0 h1; have HPUSH := Lib.hid hpush; have HPUT := Lib.hid hput; have HBP := Lib.hid hbp; have H0 := Lib.hid h0; have H1 := Lib.hid h1; clear hv hb3 hbr hroom hnodes hv3 hlen hpush hput hbp ho h0 h1 c0 c1 c2 c3 c4 c5; go_wp2; exact ⟨⟨i + 1, by omega, by go_num, H0.out, H1.out, HPUT.out, HPUSH.out, HBP.out⟩, by simp [intOf]; omega⟩
        · have he : ks.take i = ks := List.take_of_length_le (by omega); rw [he] at HN; obtain ⟨d0, d1, d2, d3, d4, d5, f0, f1, f2, f3, f4, f5⟩ := cellsR HB0.out; obtain ⟨g0, g1, g2, g3, g4, g5, p0, p1, p2, p3, p4, p5⟩ := cellsR HB1.out; have hgk := HM.out.lt; have hb4 : (wr.setCell ⟨w.heap.size, 5, none⟩ (.slice (some ⟨w.heap.size + 1 + 1, 0, none⟩) ks.length ks.length)).heap[w.heap.size + 1]? = some onilBlk := (Below.heap_setCell _ _ _ _ (by simp)).trans HB1.out; have hp := putR hb4 (.int .u8 k) (.int .u64 sa) (.int .u64 sb) (.int .u64 sc) (.int .u64 sd) (.slice (some ⟨w.heap.size + 1 + 1, 0, none⟩) ks.length ks.length); have hbb := putB (hb.setCell (p := ⟨w.heap.size, 5, none⟩) (Nat.le_refl _) (.slice (some ⟨w.heap.size + 1 + 1, 0, none⟩) ks.length ks.length)) (by omega : w.heap.size ≤ w.heap.size + 1) (.int .u8 k) (.int .u64 sa) (.int .u64 sb) (.int .u64 sc) (.int .u64 sd) (.slice (some ⟨w.heap.size + 1 + 1, 0, none⟩) ks.length ks.length)
          have hfar : ∀ b, b ≠ w.heap.size → b ≠ w.heap.size + 1 → (putW (wr.setCell ⟨w.heap.size, 5, none⟩ (.slice (some ⟨w.heap.size + 1 + 1, 0, none⟩) ks.length ks.length)) (w.heap.size + 1) (.int .u8 k) (.int .u64 sa) (.int .u64 sb) (.int .u64 sc) (.int .u64 sd) (.slice (some ⟨w.heap.size + 1 + 1, 0, none⟩) ks.length ks.length)).heap[b]? = wr.heap[b]? := by
            intro b n0 n1; unfold putW; rw [Below.heap_setCell _ _ _ _ n1, Below.heap_setCell _ _ _ _ n1, Below.heap_setCell _ _ _ _ n1, Below.heap_setCell _ _ _ _ n1, Below.heap_setCell _ _ _ _ n1, Below.heap_setCell _ _ _ _ n1, Below.heap_setCell _ _ _ _ n0]
          (have hsz : (putW (wr.setCell ⟨w.heap.size, 5, none⟩ (.slice (some ⟨w.heap.size + 1 + 1, 0, none⟩) ks.length ks.length)) (w.heap.size + 1) (.int .u8 k) (.int .u64 sa) (.int .u64 sb) (.int .u64 sc) (.int .u64 sd) (.slice (some ⟨w.heap.size + 1 + 1, 0, none⟩) ks.length ks.length)).heap.size = wr.heap.size := by simp [putW, World.setCell])
          have hrow : RowAt (New w.heap.size) (putW (wr.setCell ⟨w.heap.size, 5, none⟩ (.slice (some ⟨w.heap.size + 1 + 1, 0, none⟩) ks.length ks.length)) (w.heap.size + 1) (.int .u8 k) (.int .u64 sa) (.int .u64 sb) (.int .u64 sc) (.int .u64 sd) (.slice (some ⟨w.heap.size + 1 + 1, 0, none⟩) ks.length ks.length)) (some ⟨w.heap.size + 1 + 1, 0, none⟩) ks := by
            refine .inr ⟨_, _, rfl, by rw [hsz]; exact hgk, by unfold New; omega, NodesAt.go (ok := New (w.heap.size + 3)) ⟨by rw [hsz]; exact Nat.le_refl _, fun b _ h => ?_⟩ ks (hfar _ (by omega) (by omega)) HN.out⟩; unfold New at h; exact ⟨by unfold New; omega, hfar b (by omega) (by omega)⟩
          unfold putW at hp hbb hrow; have HP := Lib.hid hp; have HBB := Lib.hid hbb; have HROW := Lib.hid hrow; clear hp hbb hrow hfar hsz hb4; go_wp2; exact ret_re HP.out Tryz.results141 rfl rfl ⟨_, rfl, ⟨hk, hs, _, _, rfl, Nat.le_refl _, hmax, HROW.out⟩, HBB.out⟩
theorem ocloneR (r : Rx) {ok : Nat → Prop} (v : Value) (w : World) (h : ReAt ok w v r) : Calls Tryz.prog 141 #[v] w (NewPost r w) := oclone_any r.size r (Nat.le_refl _) ok v w h
open Go.RowKit
theorem RowVals.cells1 {ok : Nat → Prop} {w : World} {xs : List Value} {l : List Rx} (h : RowVals ok w xs l) : ∀ u ∈ xs, u.oneCell' = true := by
  intro u hu; obtain ⟨k, hk, rfl⟩ := List.getElem_of_mem hu; (have hk' : k < l.length * 6 := by rw [← h.1]; exact hk); obtain ⟨c0, c1, c2, c3, c4, c5, ⟨e0, e1, e2, e3, e4, e5⟩, hr⟩ := h.2 (k / 6) (by omega); obtain ⟨a0, a1, a2, a3, a4, al, an, ac, hagg⟩ := cells_re hr; simp at hagg; obtain ⟨rfl, rfl, rfl, rfl, rfl, rfl⟩ := hagg; (have hm : k = k / 6 * 6 ∨ k = k / 6 * 6 + 1 ∨ k = k / 6 * 6 + 2 ∨ k = k / 6 * 6 + 3 ∨ k = k / 6 * 6 + 4 ∨ k = k / 6 * 6 + 5 := by omega); have hg := List.getElem?_eq_getElem hk
  rcases hm with hm | hm | hm | hm | hm | hm
  · rw [← hm, hg] at e0; injection e0 with e0; rw [e0]; rfl
  · rw [← hm, hg] at e1; injection e1 with e1; rw [e1]; rfl
  · rw [← hm, hg] at e2; injection e2 with e2; rw [e2]; rfl
  · rw [← hm, hg] at e3; injection e3 with e3; rw [e3]; rfl
  · rw [← hm, hg] at e4; injection e4 with e4; rw [e4]; rfl
  · rw [← hm, hg] at e5; injection e5 with e5; rw [e5]; rfl
theorem wpList_append_owns {W : World} {ops : Array Oper} {rest : List Oper} {o : Oper} {a : Act} {Q : Exit → Act → World → Prop} (hgd : o.guard = none) (s x : Operand)
    (ho : o.op = .call { callee := .builtin .append, args := #[s, x], argTypes := #[27, 27] })
    (base : Nat) (v : Value) (n : Nat) (xs : List Value) (hs : a.eval s = v) (hown : W.ownsRow base 39 6 v n xs)
    (base2 : Nat) (v2 : Value) (m : Nat) (ys : List Value) (hx : a.eval x = v2) (hown2 : W.ownsRow base2 39 6 v2 m ys) (hys : ∀ u ∈ ys, u.oneCell' = true) (hl : n + m ≤ 1000000) (hbase : base ≤ W.heap.size)
    (h : ∀ v' W', W'.ownsRow base 39 6 v' (n + m) (xs ++ ys) → W.grownBy W' v.ownBlock → wpList Tryz.prog ops Q rest (a.put o.dst v') W') : wpList Tryz.prog ops Q (o :: rest) a W := by
  obtain ⟨i0, hi, hz0, hz1, hz2⟩ := info_parts infoR; obtain ⟨hlen, ⟨rfl, rfl⟩ | ⟨g, cap, cur, rfl, hB, hg, hn, hm, hsz, ht⟩⟩ := hown2
  · have : ys = [] := List.eq_nil_of_length_eq_zero (by simpa using hlen); subst this; refine wpList_plain hgd fun K hK => ?_; have hr := run_append_none (P := Tryz.prog) base 27 o.type 39 i0 6 0 Tryz.underlying27 hi v n xs hown; unfold Oper.wp execOp; simp only [ho, resolve, invoke, builtin, Sem.run_bind, Sem.run_pure, Result.andThen_ok, List.map_toArray, List.map_cons, List.map_nil, hs, hx, hr]; exact hK _ _ (h v W (by simpa using hown) ⟨rfl, rfl, rfl, Nat.le_refl _, fun _ _ _ => rfl⟩)
  · refine wpList_append_own W hgd s x 27 ho base 39 i0 _ 6 64 Tryz.underlying27 hi hz0 hz1 hz2 rfl (by decide) v n xs hs hown ⟨g, 0, none⟩ m cap ys hx (by rw [hlen]) ?_ hys (by unfold maxLen; omega) (by omega) hbase ?_
    · intro j u hj
      have hj' : j < m * 6 := by
        have := (List.getElem?_eq_some_iff.1 hj).1; omega
      rw [Go.WideShapes.add_plain]; rw [← ht, List.getElem?_take, if_pos hj'] at hj; show W.cell? ⟨g, 0 + j, none⟩ = some u; rw [Nat.zero_add, Lib.cell_of_heap hg, ← Array.getElem?_toList]; exact hj
    · intro v' W' g1 g2 _; exact h v' W' g1 g2
theorem own_mono {w : World} {B B' : Nat} {v : Value} {n : Nat} {xs : List Value} (h : w.ownsRow B' 39 6 v n xs) (hB : B ≤ B') : w.ownsRow B 39 6 v n xs := by
  obtain ⟨h1, h2⟩ := h; refine ⟨h1, ?_⟩
  rcases h2 with h2 | ⟨g, cap, cur, rfl, hg, hr⟩
  · exact .inl h2
  · exact .inr ⟨g, cap, cur, rfl, Nat.le_trans hB hg, hr⟩
theorem flat_plain {e : Ex} (h1 : e.isEmp = false) (h2 : e.isAlt = false) : flatE e = [e] := flat_item ⟨h1, h2⟩
theorem flatE_len : ∀ e : Ex, (flatE e).length ≤ e.size
  | .empty => by simp [flatE]
  | .eps => by simp [flatE, Ex.size]
  | .cls _ => by simp [flatE, Ex.size]
  | .seq a b => by simp [flatE, Ex.size]; omega
  | .star a => by simp [flatE, Ex.size]
  | .alt a b => by
    have h1 := flatE_len a; have h2 := flatE_len b; simp only [flatE, List.length_append, Ex.size]; omega
open Go.RowKit
def OwnO (ok : Nat → Prop) (n g b : Nat) : Prop := (ok b ∧ b < n) ∨ (n + 1 ≤ b ∧ b ≠ g)
def rchInv (ok : Nat → Prop) (k o : Nat) (l : List Rx) (w : World) (g : Nat) (y : Value) (wr : World) : Prop := ∃ (j : Nat) (v : Value) (x0 x1 x2 x3 x4 : Int) (al : Option Addr) (n cap : Nat), j < l.length ∧ y = .int .i64 ((j : Int) - 1) ∧
  v = .agg #[.int .u8 x0, .int .u64 x1, .int .u64 x2, .int .u64 x3, .int .u64 x4, .slice al n cap] ∧
  wr.heap[g]? = some (.cells #[.int .u8 x0, .int .u64 x1, .int .u64 x2, .int .u64 x3, .int .u64 x4, .slice al n cap] 39) ∧ wr.heap[w.heap.size]? = some nilBlk ∧
  ReAt (OwnO ok w.heap.size g) wr v (foldR k o (l.drop j)) ∧ Below w.heap.size w wr
theorem rch_step {ok : Nat → Prop} {n0 g k : Nat} {w wr : World} {z0 z1 z2 z3 z4 z5 y0 y1 y2 y3 y4 y5 : Value} {r t : Rx} (hk : k < 256) (hn0 : n0 + 1 ≤ g)
    (hG : wr.heap[g]? = some (.cells #[y0, y1, y2, y3, y4, y5] 39)) (hN : wr.heap[n0]? = some nilBlk) (hv : ReAt (OwnO ok n0 g) wr (.agg #[y0, y1, y2, y3, y4, y5]) t)
    (hv2 : ReAt (OwnO ok n0 g) wr (.agg #[z0, z1, z2, z3, z4, z5]) r) (hb : Below n0 w wr) :
    (chainW wr g k z0 z1 z2 z3 z4 z5 y0 y1 y2 y3 y4 y5).heap[g]? = some (.cells #[.int .u8 k, .int .u64 0, .int .u64 0, .int .u64 0, .int .u64 0, .slice (some ⟨wr.heap.size, 0, none⟩) 2 2] 39) ∧
    (chainW wr g k z0 z1 z2 z3 z4 z5 y0 y1 y2 y3 y4 y5).heap[n0]? = some nilBlk ∧
    ReAt (OwnO ok n0 g) (chainW wr g k z0 z1 z2 z3 z4 z5 y0 y1 y2 y3 y4 y5) (.agg #[.int .u8 k, .int .u64 0, .int .u64 0, .int .u64 0, .int .u64 0, .slice (some ⟨wr.heap.size, 0, none⟩) 2 2]) (.node k Ws.nil [r, t]) ∧
    Below n0 w (chainW wr g k z0 z1 z2 z3 z4 z5 y0 y1 y2 y3 y4 y5) := by
  have hg : g < wr.heap.size := (Array.getElem?_eq_some_iff.1 hG).1; have hsz := putW_size wr g (.int .u8 k) (.int .u64 0) (.int .u64 0) (.int .u64 0) (.int .u64 0) (.slice (some ⟨wr.heap.size, 0, none⟩) 2 2)
  have hold : ∀ b, b < wr.heap.size → b ≠ g → (chainW wr g k z0 z1 z2 z3 z4 z5 y0 y1 y2 y3 y4 y5).heap[b]? = wr.heap[b]? := fun b h1 h2 =>
    (Below.heap_alloc _ _ _ (by rw [hsz]; exact h1)).trans (putW_other _ _ _ _ _ _ _ _ h2)
  have hsize : wr.heap.size ≤ (chainW wr g k z0 z1 z2 z3 z4 z5 y0 y1 y2 y3 y4 y5).heap.size := by
    unfold chainW; rw [World.size_alloc, hsz]; omega
  have hkept : Kept (OwnO ok n0 g) (OwnO ok n0 g) wr (chainW wr g k z0 z1 z2 z3 z4 z5 y0 y1 y2 y3 y4 y5) := ⟨hsize, fun b h1 h2 => ⟨h2, hold b h1 (by
    rcases h2 with h2 | h2
    · omega
    · exact h2.2)⟩⟩
  refine ⟨(Below.heap_alloc _ _ _ (by rw [hsz]; omega)).trans (putR hG _ _ _ _ _ _), (hold n0 (by omega) (by omega)).trans hN, ?_, ?_⟩
  · exact ⟨hk, Ws.nil_ok, _, _, rfl, Nat.le_refl _, by simp, row_two (blk_at _ _ hsz.symm) (.inr (by omega)) (hv2.go hkept) (hv.go hkept)⟩
  · exact (putB hb (by omega : n0 ≤ g) _ _ _ _ _ _).alloc (by rw [hsz]; omega) _
theorem drew_hp (w : World) : w.drew.heap = w.heap := rfl
theorem rch_stepD {ok : Nat → Prop} {n0 g k : Nat} {w wr : World} {z0 z1 z2 z3 z4 z5 y0 y1 y2 y3 y4 y5 : Value} {r t : Rx} (hk : k < 256) (hn0 : n0 + 1 ≤ g)
    (hG : wr.heap[g]? = some (.cells #[y0, y1, y2, y3, y4, y5] 39)) (hN : wr.heap[n0]? = some nilBlk) (hv : ReAt (OwnO ok n0 g) wr (.agg #[y0, y1, y2, y3, y4, y5]) t)
    (hv2 : ReAt (OwnO ok n0 g) wr (.agg #[z0, z1, z2, z3, z4, z5]) r) (hb : Below n0 w wr) :
    (chainW wr g k z0 z1 z2 z3 z4 z5 y0 y1 y2 y3 y4 y5).drew.heap[g]? = some (.cells #[.int .u8 k, .int .u64 0, .int .u64 0, .int .u64 0, .int .u64 0, .slice (some ⟨wr.heap.size, 0, none⟩) 2 2] 39) ∧
    (chainW wr g k z0 z1 z2 z3 z4 z5 y0 y1 y2 y3 y4 y5).drew.heap[n0]? = some nilBlk ∧
    ReAt (OwnO ok n0 g) (chainW wr g k z0 z1 z2 z3 z4 z5 y0 y1 y2 y3 y4 y5).drew (.agg #[.int .u8 k, .int .u64 0, .int .u64 0, .int .u64 0, .int .u64 0, .slice (some ⟨wr.heap.size, 0, none⟩) 2 2]) (.node k Ws.nil [r, t]) ∧
    Below n0 w (chainW wr g k z0 z1 z2 z3 z4 z5 y0 y1 y2 y3 y4 y5).drew := by
  obtain ⟨s1, s2, s3, s4⟩ := rch_step hk hn0 hG hN hv hv2 hb; exact ⟨by rw [drew_hp]; exact s1, by rw [drew_hp]; exact s2, s3.below (Below.refl _ _).drew, s4.drew⟩
theorem box_box {w : World} {o : Obj} : (w.alloc nilBlk |>.alloc o).heap[w.heap.size]? = some nilBlk := (Below.heap_alloc _ _ _ (by simp)).trans (blk_new w _)
def RowN (ok : Nat → Prop) (w : World) (al : Option Addr) (l : List Rx) : Prop := ∃ b off, al = some ⟨b, off, none⟩ ∧ b < w.heap.size ∧ NodesAt ok w b off l
theorem RowN.kid {ok : Nat → Prop} {w : World} {al : Option Addr} {ks : List Rx} (h : RowN ok w al ks) {i : Nat} (hi : i < ks.length) : ∃ b off, al = some ⟨b, off, none⟩ ∧ b < w.heap.size ∧ NodeAt ok w b (off + i * 6) ks[i] := by
  obtain ⟨b, off, e, hlt, h⟩ := h; exact ⟨b, off, e, hlt, nodesAt_get h i hi⟩
theorem RowN.below {ok : Nat → Prop} {w w' : World} {al : Option Addr} {ks : List Rx} (h : RowN ok w al ks) (hb : Below w.heap.size w w') : RowN ok w' al ks := by
  obtain ⟨b, off, e, hlt, h⟩ := h; exact ⟨b, off, e, Nat.lt_of_lt_of_le hlt hb.size, NodesAt.below hb ks hlt h⟩
theorem fold_foldE (k o : Nat) (f : Ex → Ex → Ex) (hf : ∀ a b, (f a b).rx = .node k Ws.nil [a.rx, b.rx]) : ∀ l : List Ex, l ≠ [] → foldR k o (l.map Ex.rx) = (foldE f l).rx
  | [], h => absurd rfl h
  | [e], _ => rfl
  | e :: e' :: l, _ => by
    have := fold_foldE k o f hf (e' :: l) (by simp); show Rx.node k Ws.nil [e.rx, foldR k o ((e' :: l).map Ex.rx)] = _; rw [this]; exact (hf _ _).symm
set_option maxHeartbeats 4000000 in
theorem rchain_any {ok : Nat → Prop} (k o : Nat) (l : List Rx) (al : Option Addr) (cap : Nat) (w : World) (hk : k < 256) (hlen : l.length < 2199023255552) (hl : l ≠ []) (h : RowN ok w al l) :
    Calls Tryz.prog 85 #[.int .u8 k, .slice al l.length cap] w (RePost (fun b => ok b ∧ b < w.heap.size) (foldR k o l) w) := by
  have HR := Lib.hid h; clear h; have hpos : 0 < l.length := List.length_pos_iff.2 hl; obtain ⟨b, off, hab, hblt, hnode⟩ := HR.out.kid (i := l.length - 1) (by omega); subst hab; have hb0 := (Below.refl _ w).alloc (Nat.le_refl _) nilBlk; have hkid := NodeAt.below hb0 _ hblt hnode
  have hdrop : l.drop (l.length - 1) = [l[l.length - 1]'(by omega)] := by
    rw [List.drop_eq_getElem_cons (by omega), List.drop_of_length_le (by omega)]
  have HD := Lib.hid hdrop; clear hdrop hl; generalize l[l.length - 1]'(by omega) = kid at *; obtain ⟨k', ⟨ta, tb, tc, td⟩, ks'⟩ := kid; obtain ⟨al', cap', ⟨c0, c1, c2, c3, c4, c5⟩, -⟩ := hkid.read; obtain ⟨al'', cap'', ⟨c0', c1', c2', c3', c4', c5'⟩, hre⟩ := hnode.read; have e5 := (World.cell?_of_block (w := w) (a := ⟨b, off + (l.length - 1) * 6 + 5, none⟩) (hb0.block b hblt)).symm.trans c5; rw [c5'] at e5; simp at e5; obtain ⟨rfl, rfl⟩ := e5; simp only at c0 c1 c2 c3 c4 c5; unfold nilBlk at c0 c1 c2 c3 c4 c5; have HRE := Lib.hid hre; clear hkid hnode hre c0' c1' c2' c3' c4' c5'; (have q1 : (l.length : Int) - 1 = ((l.length - 1 : Nat) : Int) := by omega); (have q2 : ((l.length - 1 : Nat) : Int) < (l.length : Int) := by omega); go_enter Tryz.func85, Tryz.ntmps85; go_wp2
  go_loopw [7] (fun y wr => rchInv ok k o l w (w.heap.size + 1) y wr) (fun y _ => (intOf y + 1).toNat)
  case atStart =>
    refine ⟨l.length - 1, _, _, _, _, _, _, _, _, _, by omega, ?_, rfl, blk_at _ _ (by simp), box_box, ?_, hb0.alloc (by simp) _⟩
    · first | rfl | (congr 1; omega)
    · rw [HD.out]; exact HRE.out.go ⟨by simp; omega, fun b hb h => ⟨.inl ⟨h, hb⟩, (Below.heap_alloc _ _ _ (by simp; omega)).trans (Below.heap_alloc _ _ _ hb)⟩⟩
  case round =>
    obtain ⟨j, v, y0, y1, y2, y3, y4, yl, yn, yc, hj, rfl, rfl, hg, hn, hv, hb⟩ := hrel; have HG := Lib.hid hg; have HN := Lib.hid hn; have HV' := Lib.hid hv; clear hg hn hv HD HRE c0 c1 c2 c3 c4 c5; have hgs := (Array.getElem?_eq_some_iff.1 HG.out).1
    by_cases hj0 : j = 0
    · subst hj0; obtain ⟨d0, e1, e2, e3, e4, e5, f0, f1, f2, f3, f4, f5⟩ := cellsR HG.out; obtain ⟨g0, g1, g2, g3, g4, g5, p0, p1, p2, p3, p4, p5⟩ := cellsR HN.out; have hp := putR HN.out (.int .u8 y0) (.int .u64 y1) (.int .u64 y2) (.int .u64 y3) (.int .u64 y4) (.slice yl yn yc); have hbb := putB hb (Nat.le_refl w.heap.size) (.int .u8 y0) (.int .u64 y1) (.int .u64 y2) (.int .u64 y3) (.int .u64 y4) (.slice yl yn yc)
      have hre : ReAt (fun b => (ok b ∧ b < w.heap.size) ∨ w.heap.size ≤ b) (putW wr w.heap.size (.int .u8 y0) (.int .u64 y1) (.int .u64 y2) (.int .u64 y3) (.int .u64 y4) (.slice yl yn yc)) (.agg #[.int .u8 y0, .int .u64 y1, .int .u64 y2, .int .u64 y3, .int .u64 y4, .slice yl yn yc]) (foldR k o l) := by
        have h := HV'.out; rw [List.drop_zero] at h; refine h.go ⟨by rw [putW_size]; exact Nat.le_refl _, fun b _ hb => ?_⟩
        rcases hb with hb | hb
        · exact ⟨.inl hb, putW_other _ _ _ _ _ _ _ _ (by omega)⟩
        · exact ⟨.inr (by omega), putW_other _ _ _ _ _ _ _ _ (by omega)⟩
      unfold putW at hp hbb hre; have HP := Lib.hid hp; have HBB := Lib.hid hbb; have HRE := Lib.hid hre; clear hp hbb hre; go_wp2; exact ret_re HP.out Tryz.results85 rfl rfl ⟨_, rfl, HRE.out, HBB.out⟩
    · (have d1 : decide (0 ≤ (j : Int) - 1) = true := by simp; omega); obtain ⟨b2, off2, hab2, hblt2, hnode2⟩ := HR.out.kid (i := j - 1) (by omega); simp at hab2; obtain ⟨rfl, rfl⟩ := hab2; have hkid2 := NodeAt.go (ok := ok) (ok' := OwnO ok w.heap.size (w.heap.size + 1)) ⟨hb.size, fun b hb' h => ⟨.inl ⟨h, hb'⟩, hb.block b hb'⟩⟩ _ (hb.block _ hblt2) hnode2
      have hdrop : l.drop (j - 1) = l[j - 1]'(by omega) :: l.drop j := by
        rw [List.drop_eq_getElem_cons (by omega)]; congr 2; omega
      (have hne : l.drop j ≠ [] := by simp; omega); have hfo := foldR_cons k o (l[j - 1]'(by omega)) hne; rw [← hdrop] at hfo; have HFO := Lib.hid hfo; clear hdrop hne hfo hnode2; generalize l[j - 1]'(by omega) = kid2 at *; obtain ⟨k2, ⟨sa, sb, sc, sd⟩, ks2⟩ := kid2; obtain ⟨al2, cap2, ⟨c0, c1, c2, c3, c4, c5⟩, hre⟩ := hkid2.read; simp only at c0 c1 c2 c3 c4 c5; have HRE := Lib.hid hre; clear hkid2 hre; (have r1 : (j : Int) - 1 = ((j - 1 : Nat) : Int) := by omega); (have r2 : ((j - 1 : Nat) : Int) < (l.length : Int) := by omega); obtain ⟨d0, e1, e2, e3, e4, e5, f0, f1, f2, f3, f4, f5⟩ := cellsR HG.out; go_wp2_with fail
      go_region
      obtain ⟨s1, s2, s3, s4⟩ := rch_stepD (k := k) hk (Nat.le_refl _) HG.out HN.out HV'.out HRE.out hb; have HS1 := Lib.hid s1; have HS2 := Lib.hid s2; have HS3 := Lib.hid s3; have HS4 := Lib.hid s4; unfold chainW putW at HS1 HS2 HS3 HS4; clear s1 s2 s3 s4; go_wp2; refine ⟨⟨j - 1, _, k, 0, 0, 0, 0, _, 2, 2, by omega, ?_, rfl, HS1.out, HS2.out, ?_, HS4.out⟩, ?_⟩
      · first | rfl | (congr 1; omega)
      · rw [HFO.out]; exact HS3.out
      · simp [intOf]; omega
end Go.Proofs.YthgghaaddankoaaGreatDoor
