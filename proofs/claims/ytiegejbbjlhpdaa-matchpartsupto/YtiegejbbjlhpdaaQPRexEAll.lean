/- Lemmas of mine, merged: QPRexE, QPRexMay, QPShowM, QPNullO, QPRexR, QPRexF, QPRexG, QPDerM, QPDerN, QPMatM, QPMatA, QPMatB, QPMatC, QPMatD, QPMatE, QPNullA, QPShowBx, QPReadM, QPReadN, QPReadTl, QPReadT, QPReadU, QPReadO, QPReadTop, QPNormP, QPReadSt, QPRdrG. -/
import Derived.Deep.RegionHeld3
import Derived.Test.YtiegejbbjlhpdaaQPRexBAll
import Derived.Test.YtiegejbbjlhpdaaQPSetMAll
import Derived.Laws.MakeOwn
import Derived.Deep.RegionWith
import Derived.BigRegion
import Derived.Test.YtiegejbbjlhpdaaQPSetAAll
import Derived.Test.YtiegejbbjlhpdaaQPAnyOrdAll
import Derived.StillTail
/- Lemmas of mine. -/
namespace Go.Proofs.Ytiegejbbjlhpdaa
open Go.RowKit
def bareB (s : Ws) : Bool := sameW s Ws.nil
set_option maxHeartbeats 1000000 in
theorem isBare_any (s : Ws) (w : World) :
    Calls Try.prog 71 #[s.v] w fun e w' => e = .returned (.bool (bareB s)) ∧ Below w.heap.size w w' := by
  by_cases h : sameW s Ws.nil = true
  · have e : bareB s = true := h
    rw [e]
    obtain rfl := sameW_iff.1 h
    have hq := eqW_yes Ws.nil
    rw [nil_v] at hq ⊢
    clear h e
    go_enter Try.func71, Try.ntmps71
    go_wp2
    go_ret
    exact ⟨rfl, (Below.refl _ w).alloc (Nat.le_refl _) _⟩
  · have e : bareB s = false := by simpa [bareB] using h
    rw [e]
    have hne : s ≠ Ws.nil := fun e => h (sameW_iff.2 e)
    have hq := eqW_no hne
    rw [nil_v] at hq
    obtain ⟨a, b, c, d⟩ := s
    unfold Ws.v at hq ⊢
    clear h e hne
    go_enter Try.func71, Try.ntmps71
    go_wp2
    go_ret
    exact ⟨rfl, (Below.refl _ w).alloc (Nat.le_refl _) _⟩
set_option maxHeartbeats 1000000 in
theorem ofX_any (s : Ws) (w : World) (hs : s.Ok) :
    Calls Try.prog 64 #[s.v] w (NewPost (ofR s) w) := by
  have KB := Lib.hid fun W => isBare_any s W
  have HO := Lib.hid (show ofR s = if bareB s then .node 1 Ws.nil [] else .node 3 s [] from rfl)
  generalize bareB s = q at *
  obtain ⟨a, b, c, d⟩ := s
  unfold Ws.v at KB ⊢
  go_enter Try.func64, Try.ntmps64
  go_wp2_with fail
  refine (KB.out _).mono ?_
  rintro e w1 ⟨rfl, hb1⟩
  have hbl : w1.heap[w.heap.size + 1]? = some (.cells #[.int .u8 0, .int .u64 0, .int .u64 0, .int .u64 0, .int .u64 0, .slice none 0 0] 27) := (hb1.block _ (by simp)).trans (blk_at _ _ (by simp))
  have hbs : w1.heap[w.heap.size]? = some (.cells #[.int .u64 a, .int .u64 b, .int .u64 c, .int .u64 d] 24) := (hb1.block _ (by simp; omega)).trans ((Below.heap_alloc _ _ _ (by simp)).trans (blk_at _ _ rfl))
  have hbw : Below w.heap.size w w1 := (((Below.refl _ w).alloc (Nat.le_refl _) _).alloc (by simp) _).trans (hb1.mono (by simp; omega))
  obtain ⟨d0, d1, d2, d3, d4, d5, f0, f1, f2, f3, f4, f5⟩ := cellsR hbl
  obtain ⟨⟨c0, c1, c2, c3⟩, _⟩ := (show Box w1 w.heap.size ⟨a, b, c, d⟩ from hbs).all
  simp only at c0 c1 c2 c3
  have HBL := Lib.hid hbl
  have HBW := Lib.hid hbw
  clear hbl hbs hb1 hbw
  cases q
  · have HP := Lib.hid (putR HBL.out (.int .u8 3) (.int .u64 a) (.int .u64 b) (.int .u64 c) (.int .u64 d) (.slice none 0 0))
    have HB := Lib.hid (putB HBW.out (by omega : w.heap.size ≤ w.heap.size + 1) (.int .u8 3) (.int .u64 a) (.int .u64 b) (.int .u64 c) (.int .u64 d) (.slice none 0 0))
    unfold putW at HP HB
    go_wp2
    refine ret_re HP.out Try.results64 rfl rfl ⟨_, rfl, ?_, HB.out⟩
    rw [HO.out]
    exact bareAt _ _ 3 ⟨a, b, c, d⟩ (by decide) hs
  · have HP := Lib.hid (putR HBL.out (.int .u8 1) (.int .u64 0) (.int .u64 0) (.int .u64 0) (.int .u64 0) (.slice none 0 0))
    have HB := Lib.hid (putB HBW.out (by omega : w.heap.size ≤ w.heap.size + 1) (.int .u8 1) (.int .u64 0) (.int .u64 0) (.int .u64 0) (.int .u64 0) (.slice none 0 0))
    unfold putW at HP HB
    go_wp2
    refine ret_re HP.out Try.results64 rfl rfl ⟨_, rfl, ?_, HB.out⟩
    rw [HO.out]
    exact bareAt _ _ 1 Ws.nil (by decide) Ws.nil_ok
def nodeGood (k n : Nat) (q : Bool) : Bool :=
  if k = 1 ∨ k = 2 then decide (n = 0) && q else if k = 3 then decide (n = 0) && !q else if k = 4 ∨ k = 5 then decide (n = 2) && q else if k = 6 then decide (n = 1) && q else false
def goodN : Rx → Bool
  | .node k s ks => nodeGood k ks.length (bareB s)
def ReCells (x : World) (g : Nat) (k a b c d : Nat) (sl : Value) : Prop := x.cell? ⟨g, 0, none⟩ = some (.int .u8 k) ∧ x.cell? ⟨g, 1, none⟩ = some (.int .u64 a) ∧ x.cell? ⟨g, 2, none⟩ = some (.int .u64 b) ∧ x.cell? ⟨g, 3, none⟩ = some (.int .u64 c) ∧ x.cell? ⟨g, 4, none⟩ = some (.int .u64 d) ∧ x.cell? ⟨g, 5, none⟩ = some sl
theorem reCells_of {x : World} {g k a b c d : Nat} {sl : Value} (h : x.heap[g]? = some (.cells #[.int .u8 k, .int .u64 a, .int .u64 b, .int .u64 c, .int .u64 d, sl] 27)) : ReCells x g k a b c d sl := by
  obtain ⟨d0, d1, d2, d3, d4, d5, _⟩ := cellsR h
  exact ⟨d0, d1, d2, d3, d4, d5⟩
theorem ReCells.below {x y : World} {B g k a b c d : Nat} {sl : Value} (h : ReCells x g k a b c d sl) (hb : Below B x y) (hg : g < B) : ReCells y g k a b c d sl := by
  have e := fun o => hb.cell (p := ⟨g, o, none⟩) hg
  obtain ⟨d0, d1, d2, d3, d4, d5⟩ := h
  exact ⟨by rw [e]; exact d0, by rw [e]; exact d1, by rw [e]; exact d2, by rw [e]; exact d3, by rw [e]; exact d4, by rw [e]; exact d5⟩
theorem keepR {W x y : World} {g k a b c d : Nat} {sl : Value} (h : ReCells W g k a b c d sl) (hg : g < W.heap.size) (h1 : Below W.heap.size W x) (h2 : Below x.heap.size x y) :
    (y.cell? ⟨g, 0, none⟩ = some (.int .u8 k) ∧ y.cell? ⟨g, 1, none⟩ = some (.int .u64 a) ∧ y.cell? ⟨g, 2, none⟩ = some (.int .u64 b) ∧ y.cell? ⟨g, 3, none⟩ = some (.int .u64 c) ∧ y.cell? ⟨g, 4, none⟩ = some (.int .u64 d) ∧ y.cell? ⟨g, 5, none⟩ = some sl) ∧ Below W.heap.size W y := by
  have hb := h1.trans (h2.mono h1.size)
  exact ⟨h.below hb hg, hb⟩
set_option maxHeartbeats 4000000 in
theorem nodeMay_any (k : Nat) (s : Ws) (n : Nat) (al : Option Addr) (cap : Nat) (w : World) (hk : k < 256) (hn : n < 2199023255552) :
    Calls Try.prog 53 #[.agg #[.int .u8 k, .int .u64 s.a, .int .u64 s.b, .int .u64 s.c, .int .u64 s.d, .slice al n cap]] w fun e w' => e = .returned (.bool (nodeGood k n (bareB s))) ∧ Below w.heap.size w w' := by
  have KB := Lib.hid fun W => isBare_any s W
  generalize bareB s = q at *
  obtain ⟨a, b, c, d⟩ := s
  unfold Ws.v at KB
  simp only at KB ⊢
  go_enter Try.func53, Try.ntmps53
  go_wp2_with fail
  have h0 := reCells_of (blk_new w (.cells #[.int .u8 k, .int .u64 a, .int .u64 b, .int .u64 c, .int .u64 d, .slice al n cap] 27))
  have hb0 := (Below.refl _ w).alloc (Nat.le_refl _) (.cells #[.int .u8 k, .int .u64 a, .int .u64 b, .int .u64 c, .int .u64 d, .slice al n cap] 27)
  have hg : w.heap.size < (w.alloc (.cells #[.int .u8 k, .int .u64 a, .int .u64 b, .int .u64 c, .int .u64 d, .slice al n cap] 27)).heap.size := by simp
  generalize hW : w.alloc (.cells #[.int .u8 k, .int .u64 a, .int .u64 b, .int .u64 c, .int .u64 d, .slice al n cap] 27) = W at *
  clear hW
  have H0 := Lib.hid h0
  clear h0
  go_region_held3 (fun x => (x.cell? ⟨w.heap.size, 0, none⟩ = some (.int .u8 k) ∧ x.cell? ⟨w.heap.size, 1, none⟩ = some (.int .u64 a) ∧ x.cell? ⟨w.heap.size, 2, none⟩ = some (.int .u64 b) ∧ x.cell? ⟨w.heap.size, 3, none⟩ = some (.int .u64 c) ∧ x.cell? ⟨w.heap.size, 4, none⟩ = some (.int .u64 d) ∧ x.cell? ⟨w.heap.size, 5, none⟩ = some (.slice al n cap)) ∧ Below W.heap.size W x)
    (first | assumption | exact ⟨H0.out, (Below.refl _ _).drew⟩ | exact keepR H0.out hg (And.right (by assumption)) (by assumption))
    (first
      | (go_at_call 71; (with_reducible refine (KB.out _).mono ?_); rintro e w' ⟨rfl, hbb⟩))
  all_goals
    obtain ⟨⟨c0, c1, c2, c3, c4, c5⟩, hbx⟩ := ‹_ ∧ Below W.heap.size W _›
    have hbw := hb0.trans (hbx.mono (Nat.le_of_lt hg))
    have HBW := Lib.hid hbw
    clear hbx hbw
    by_cases k1 : k = 1
    · subst k1
      by_cases hn0 : n = 0
      · subst hn0
        go_wp2
        go_ret
        exact ⟨by simp [nodeGood], HBW.out⟩
      · have e0 : ((n : Int) == 0) = false := by simp; omega
        go_wp2
        go_ret
        exact ⟨by simp [nodeGood, hn0], HBW.out⟩
    have f1 : ((k : Int) == 1) = false := by simp; omega
    by_cases k2 : k = 2
    · subst k2
      by_cases hn0 : n = 0
      · subst hn0
        go_wp2
        go_ret
        exact ⟨by simp [nodeGood], HBW.out⟩
      · have e0 : ((n : Int) == 0) = false := by simp; omega
        go_wp2
        go_ret
        exact ⟨by simp [nodeGood, hn0], HBW.out⟩
    have f2 : ((k : Int) == 2) = false := by simp; omega
    by_cases k3 : k = 3
    · subst k3
      by_cases hn0 : n = 0
      · subst hn0
        go_wp2
        go_ret
        exact ⟨by simp [nodeGood], HBW.out⟩
      · have e0 : ((n : Int) == 0) = false := by simp; omega
        go_wp2
        go_ret
        exact ⟨by simp [nodeGood, hn0], HBW.out⟩
    have f3 : ((k : Int) == 3) = false := by simp; omega
    by_cases k4 : k = 4
    · subst k4
      by_cases hn0 : n = 2
      · subst hn0
        go_wp2
        go_ret
        exact ⟨by simp [nodeGood], HBW.out⟩
      · have e0 : ((n : Int) == 2) = false := by simp; omega
        go_wp2
        go_ret
        exact ⟨by simp [nodeGood, hn0], HBW.out⟩
    have f4 : ((k : Int) == 4) = false := by simp; omega
    by_cases k5 : k = 5
    · subst k5
      by_cases hn0 : n = 2
      · subst hn0
        go_wp2
        go_ret
        exact ⟨by simp [nodeGood], HBW.out⟩
      · have e0 : ((n : Int) == 2) = false := by simp; omega
        go_wp2
        go_ret
        exact ⟨by simp [nodeGood, hn0], HBW.out⟩
    have f5 : ((k : Int) == 5) = false := by simp; omega
    by_cases k6 : k = 6
    · subst k6
      by_cases hn0 : n = 1
      · subst hn0
        go_wp2
        go_ret
        exact ⟨by simp [nodeGood], HBW.out⟩
      · have e0 : ((n : Int) == 1) = false := by simp; omega
        go_wp2
        go_ret
        exact ⟨by simp [nodeGood, hn0], HBW.out⟩
    have f6 : ((k : Int) == 6) = false := by simp; omega
    have HG := Lib.hid (show nodeGood k n q = false from by simp [nodeGood, k1, k2, k3, k4, k5, k6])
    clear k1 k2 k3 k4 k5 k6
    go_wp2
    go_ret
    exact ⟨by rw [HG.out]; rfl, HBW.out⟩
end Go.Proofs.Ytiegejbbjlhpdaa
/- Lemmas of mine. -/
namespace Go.Proofs.Ytiegejbbjlhpdaa
mutual
def goodR : Rx → Bool
  | .node k s ks => nodeGood k ks.length (bareB s) && goodRs ks
def goodRs : List Rx → Bool
  | [] => true
  | r :: rs => goodR r && goodRs rs
end
theorem goodRs_append (a b : List Rx) : goodRs (a ++ b) = (goodRs a && goodRs b) := by
  induction a with
  | nil => simp [goodRs]
  | cons x t ih => simp [goodRs, ih, Bool.and_assoc]
def mayN (r : Rx) (n : Nat) : Bool := goodR r && decide (r.size ≤ n)
def mayNs (l : List Rx) (n : Nat) : Bool := goodRs l && decide (Rx.sizes l ≤ n)
def mayR (r : Rx) : Bool := mayN r 2000
theorem mayNs_step {l : List Rx} {n i : Nat} (h : i < l.length) (ht : mayNs (l.take i) n = true) (hk : mayN l[i] (n - Rx.sizes (l.take i)) = true) : mayNs (l.take (i + 1)) n = true := by
  simp [mayNs, mayN] at *
  rw [sizes_take l i h, List.take_succ_eq_append_getElem h, goodRs_append]
  simp [goodRs, ht, hk]; omega
theorem mayNs_stop {l : List Rx} {n i : Nat} (h : i < l.length) (ht : mayNs (l.take i) n = true) (hk : mayN l[i] (n - Rx.sizes (l.take i)) = false) : mayNs l n = false := by
  have e := List.take_append_drop (i + 1) l
  have hs := sizes_append (l.take (i + 1)) (l.drop (i + 1))
  have hg := goodRs_append (l.take (i + 1)) (l.drop (i + 1))
  rw [e] at hs hg
  rw [sizes_take l i h] at hs
  rw [List.take_succ_eq_append_getElem h, goodRs_append] at hg
  simp only [goodRs, Bool.and_true] at hg
  simp only [mayNs, mayN, Bool.and_eq_true, Bool.and_eq_false_iff, decide_eq_true_eq, decide_eq_false_iff_not] at *
  rcases hk with hk | hk
  · left; rw [hg, hk]; simp
  · right; omega
end Go.Proofs.Ytiegejbbjlhpdaa
/- Lemmas of mine. -/
namespace Go.Proofs.Ytiegejbbjlhpdaa
inductive Ex where
  | empty
  | eps
  | cls (s : Ws)
  | seq (a b : Ex)
  | alt (a b : Ex)
  | star (a : Ex)
def Ex.rx : Ex → Rx
  | .empty => .node 1 Ws.nil []
  | .eps => .node 2 Ws.nil []
  | .cls s => .node 3 s []
  | .seq a b => .node 4 Ws.nil [a.rx, b.rx]
  | .alt a b => .node 5 Ws.nil [a.rx, b.rx]
  | .star a => .node 6 Ws.nil [a.rx]
def Ex.Wf : Ex → Prop
  | .empty => True
  | .eps => True
  | .cls s => s.Ok ∧ s ≠ Ws.nil
  | .seq a b => a.Wf ∧ b.Wf
  | .alt a b => a.Wf ∧ b.Wf
  | .star a => a.Wf
def Ex.size : Ex → Nat
  | .empty => 1
  | .eps => 1
  | .cls _ => 1
  | .seq a b => 1 + a.size + b.size
  | .alt a b => 1 + a.size + b.size
  | .star a => 1 + a.size
theorem Ex.size_rx : ∀ e : Ex, e.rx.size = e.size
  | .empty => by simp [Ex.rx, Rx.size, Rx.sizes, Ex.size]
  | .eps => by simp [Ex.rx, Rx.size, Rx.sizes, Ex.size]
  | .cls _ => by simp [Ex.rx, Rx.size, Rx.sizes, Ex.size]
  | .seq a b => by simp [Ex.rx, Rx.size, Rx.sizes, Ex.size, a.size_rx, b.size_rx]; omega
  | .alt a b => by simp [Ex.rx, Rx.size, Rx.sizes, Ex.size, a.size_rx, b.size_rx]; omega
  | .star a => by simp [Ex.rx, Rx.size, Rx.sizes, Ex.size, a.size_rx]
theorem Ex.rx_inj : ∀ e f : Ex, e.rx = f.rx → e = f
  | .empty, f, h => by cases f <;> simp_all [Ex.rx]
  | .eps, f, h => by cases f <;> simp_all [Ex.rx]
  | .cls _, f, h => by cases f <;> simp_all [Ex.rx]
  | .seq a b, f, h => by
    cases f with
    | seq c d =>
      simp [Ex.rx] at h
      rw [a.rx_inj c h.1, b.rx_inj d h.2]
    | _ => simp [Ex.rx] at h
  | .alt a b, f, h => by
    cases f with
    | alt c d =>
      simp [Ex.rx] at h
      rw [a.rx_inj c h.1, b.rx_inj d h.2]
    | _ => simp [Ex.rx] at h
  | .star a, f, h => by
    cases f with
    | star c =>
      simp [Ex.rx] at h
      rw [a.rx_inj c h]
    | _ => simp [Ex.rx] at h
def Rx.SetsOk : Rx → Prop
  | .node _ s ks => s.Ok ∧ ∀ k ∈ ks, k.SetsOk
theorem bare_nil {s : Ws} (h : bareB s = true) : s = Ws.nil := by
  unfold bareB at h
  exact sameW_iff.1 h
theorem goodRs_mem {l : List Rx} (h : goodRs l = true) : ∀ r ∈ l, goodR r = true := by
  induction l with
  | nil => intro r hr; cases hr
  | cons x t ih =>
    simp only [goodRs, Bool.and_eq_true] at h
    intro r hr
    rcases List.mem_cons.1 hr with rfl | hr
    · exact h.1
    · exact ih h.2 r hr
theorem ex_of_good (N : Nat) : ∀ r : Rx, r.size ≤ N → goodR r = true → r.SetsOk → ∃ e : Ex, e.rx = r ∧ e.Wf := by
  induction N with
  | zero => intro r h; have := r.size_pos; omega
  | succ N ih =>
    rintro ⟨k, s, ks⟩ hN hg hs
    have hN' : Rx.sizes ks ≤ N := by simp [Rx.size] at hN; omega
    unfold goodR at hg
    unfold Rx.SetsOk at hs
    rw [Bool.and_eq_true] at hg
    obtain ⟨hn, hks⟩ := hg
    have sub : ∀ r ∈ ks, ∃ e : Ex, e.rx = r ∧ e.Wf := fun r hr => by
      obtain ⟨i, hi, rfl⟩ := List.getElem_of_mem hr
      exact ih _ (Nat.le_trans (size_kid hi) hN') (goodRs_mem hks _ hr) (hs.2 _ hr)
    unfold nodeGood at hn
    by_cases h1 : k = 1 ∨ k = 2
    · rw [if_pos h1] at hn
      simp only [Bool.and_eq_true, decide_eq_true_eq] at hn
      obtain ⟨h2, h3⟩ := hn
      have hk := List.eq_nil_of_length_eq_zero h2
      have hb := bare_nil h3
      subst hk hb
      rcases h1 with rfl | rfl
      · exact ⟨.empty, rfl, trivial⟩
      · exact ⟨.eps, rfl, trivial⟩
    · rw [if_neg h1] at hn
      by_cases h2 : k = 3
      · rw [if_pos h2] at hn
        simp only [Bool.and_eq_true, decide_eq_true_eq, Bool.not_eq_true'] at hn
        have hk := List.eq_nil_of_length_eq_zero hn.1
        subst hk h2
        refine ⟨.cls s, rfl, hs.1, fun e => ?_⟩
        have := hn.2
        rw [e] at this
        exact absurd this (by decide)
      · rw [if_neg h2] at hn
        by_cases h3 : k = 4 ∨ k = 5
        · rw [if_pos h3] at hn
          simp only [Bool.and_eq_true, decide_eq_true_eq] at hn
          have hb := bare_nil hn.2
          subst hb
          match ks, hn.1 with
          | [a, b], _ =>
            obtain ⟨ea, rfl, wa⟩ := sub a (by simp)
            obtain ⟨eb, rfl, wb⟩ := sub b (by simp)
            rcases h3 with rfl | rfl
            · exact ⟨.seq ea eb, rfl, wa, wb⟩
            · exact ⟨.alt ea eb, rfl, wa, wb⟩
        · rw [if_neg h3] at hn
          by_cases h4 : k = 6
          · rw [if_pos h4] at hn
            simp only [Bool.and_eq_true, decide_eq_true_eq] at hn
            have hb := bare_nil hn.2
            subst hb h4
            match ks, hn.1 with
            | [a], _ =>
              obtain ⟨ea, rfl, wa⟩ := sub a (by simp)
              exact ⟨.star ea, rfl, wa⟩
          · rw [if_neg h4] at hn; exact absurd hn (by simp)
theorem good_ex : ∀ e : Ex, e.Wf → goodR e.rx = true
  | .empty, _ => by simp [Ex.rx, goodR, goodRs, nodeGood]; decide
  | .eps, _ => by simp [Ex.rx, goodR, goodRs, nodeGood]; decide
  | .cls s, h => by
    have : bareB s = false := by
      cases hb : bareB s with
      | false => rfl
      | true => exact absurd (bare_nil hb) h.2
    simp [Ex.rx, goodR, goodRs, nodeGood, this]
  | .seq a b, h => by
    have : bareB Ws.nil = true := by decide
    simp [Ex.rx, goodR, goodRs, nodeGood, this, good_ex a h.1, good_ex b h.2]
  | .alt a b, h => by
    have : bareB Ws.nil = true := by decide
    simp [Ex.rx, goodR, goodRs, nodeGood, this, good_ex a h.1, good_ex b h.2]
  | .star a, h => by
    have : bareB Ws.nil = true := by decide
    simp [Ex.rx, goodR, goodRs, nodeGood, this, good_ex a h]
end Go.Proofs.Ytiegejbbjlhpdaa
/- Lemmas of mine. -/
namespace Go.Proofs.Ytiegejbbjlhpdaa
instance decWs (s t : Ws) : Decidable (s = t) :=
  if h : s.a = t.a ∧ s.b = t.b ∧ s.c = t.c ∧ s.d = t.d then .isTrue (by cases s; cases t; simp at h; simp [h]) else .isFalse (fun e => h (by simp [e]))
open Go.RowKit
def Room (w : World) (g n : Nat) : Prop := ∃ arr, w.heap[g]? = some (.cells arr 27) ∧ arr.size = n
theorem Room.lt {w : World} {g n : Nat} (h : Room w g n) : g < w.heap.size := by
  obtain ⟨arr, h, _⟩ := h
  exact (Array.getElem?_eq_some_iff.1 h).1
theorem Room.of {w w' : World} {g n : Nat} (h : Room w g n) (e : w'.heap[g]? = w.heap[g]?) : Room w' g n := by
  obtain ⟨arr, h, hs⟩ := h
  exact ⟨arr, e.trans h, hs⟩
theorem Room.cells {w : World} {g n : Nat} (h : Room w g n) (o : Nat) (ho : o < n) : (∃ v, w.cell? ⟨g, o, none⟩ = some v) ∧ w.frozen? ⟨g, o, none⟩ = false := by
  obtain ⟨arr, h, hs⟩ := h
  refine ⟨⟨arr[o]'(by omega), ?_⟩, Lib.frozen_of_heap h o⟩
  rw [Lib.cell_of_heap h]
  simp [hs, ho]
theorem setCell_at {w : World} {g : Nat} {arr : Array Value} (h : w.heap[g]? = some (.cells arr 27)) (o : Nat) (y : Value) : (w.setCell ⟨g, o, none⟩ y).heap[g]? = some (.cells (arr.setIfInBounds o y) 27) := by
  simp [World.setCell, Array.getElem?_modify, h]
def put6 (w : World) (g off : Nat) (y0 y1 y2 y3 y4 y5 : Value) : World := (((((w.setCell ⟨g, off, none⟩ y0).setCell ⟨g, off + 1, none⟩ y1).setCell ⟨g, off + 2, none⟩ y2).setCell ⟨g, off + 3, none⟩ y3).setCell ⟨g, off + 4, none⟩ y4).setCell ⟨g, off + 5, none⟩ y5
theorem put6_size (w : World) (g off : Nat) (y0 y1 y2 y3 y4 y5 : Value) : (put6 w g off y0 y1 y2 y3 y4 y5).heap.size = w.heap.size := by simp [put6, World.setCell]
theorem put6_other (w : World) (g off : Nat) (y0 y1 y2 y3 y4 y5 : Value) {b : Nat} (hb : b ≠ g) : (put6 w g off y0 y1 y2 y3 y4 y5).heap[b]? = w.heap[b]? := by
  unfold put6
  rw [Below.heap_setCell _ _ _ _ hb, Below.heap_setCell _ _ _ _ hb, Below.heap_setCell _ _ _ _ hb, Below.heap_setCell _ _ _ _ hb, Below.heap_setCell _ _ _ _ hb, Below.heap_setCell _ _ _ _ hb]
theorem put6_at {w : World} {g n off : Nat} (h : Room w g n) (ho : off + 6 ≤ n) (y0 y1 y2 y3 y4 y5 : Value) :
    Room (put6 w g off y0 y1 y2 y3 y4 y5) g n ∧
    ((put6 w g off y0 y1 y2 y3 y4 y5).cell? ⟨g, off, none⟩ = some y0 ∧ (put6 w g off y0 y1 y2 y3 y4 y5).cell? ⟨g, off + 1, none⟩ = some y1 ∧ (put6 w g off y0 y1 y2 y3 y4 y5).cell? ⟨g, off + 2, none⟩ = some y2 ∧ (put6 w g off y0 y1 y2 y3 y4 y5).cell? ⟨g, off + 3, none⟩ = some y3 ∧ (put6 w g off y0 y1 y2 y3 y4 y5).cell? ⟨g, off + 4, none⟩ = some y4 ∧ (put6 w g off y0 y1 y2 y3 y4 y5).cell? ⟨g, off + 5, none⟩ = some y5) ∧
    ∀ o, o < off ∨ off + 6 ≤ o → (put6 w g off y0 y1 y2 y3 y4 y5).cell? ⟨g, o, none⟩ = w.cell? ⟨g, o, none⟩ := by
  obtain ⟨arr, h, hs⟩ := h
  have e := setCell_at (setCell_at (setCell_at (setCell_at (setCell_at (setCell_at h off y0) (off + 1) y1) (off + 2) y2) (off + 3) y3) (off + 4) y4) (off + 5) y5
  have c := fun o => Lib.cell_of_heap (w := put6 w g off y0 y1 y2 y3 y4 y5) (j := o) e
  refine ⟨⟨_, e, by simp [hs]⟩, ⟨?_, ?_, ?_, ?_, ?_, ?_⟩, ?_⟩
  · rw [c]; simp [Array.getElem?_setIfInBounds, hs]; omega
  · rw [c]; simp [Array.getElem?_setIfInBounds, hs]; omega
  · rw [c]; simp [Array.getElem?_setIfInBounds, hs]; omega
  · rw [c]; simp [Array.getElem?_setIfInBounds, hs]; omega
  · rw [c]; simp [Array.getElem?_setIfInBounds, hs]; omega
  · rw [c]; simp [Array.getElem?_setIfInBounds, hs]; omega
  · intro o h'
    rw [c, Lib.cell_of_heap h]
    have n0 : ¬ off = o := by omega
    have n1 : ¬ off + 1 = o := by omega
    have n2 : ¬ off + 2 = o := by omega
    have n3 : ¬ off + 3 = o := by omega
    have n4 : ¬ off + 4 = o := by omega
    have n5 : ¬ off + 5 = o := by omega
    simp [n0, n1, n2, n3, n4, n5]
theorem put6_below {w w' : World} {B g : Nat} (h : Below B w w') (hg : B ≤ g) (off : Nat) (y0 y1 y2 y3 y4 y5 : Value) : Below B w (put6 w' g off y0 y1 y2 y3 y4 y5) :=
  (((((h.setCell (p := ⟨g, off, none⟩) hg _).setCell (p := ⟨g, off + 1, none⟩) hg _).setCell (p := ⟨g, off + 2, none⟩) hg _).setCell (p := ⟨g, off + 3, none⟩) hg _).setCell (p := ⟨g, off + 4, none⟩) hg _).setCell (p := ⟨g, off + 5, none⟩) hg _
theorem NodeAt.cells {ok ok' : Nat → Prop} {w w' : World} {b off : Nat} {r : Rx} (h : NodeAt ok w b off r) (hk : Kept ok ok' w w') (hc : ∀ o, off ≤ o → o < off + 6 → w'.cell? ⟨b, o, none⟩ = w.cell? ⟨b, o, none⟩) : NodeAt ok' w' b off r := by
  obtain ⟨k, s, ks⟩ := r
  unfold NodeAt at h ⊢
  obtain ⟨h0, hs, ⟨c0, c1, c2, c3, c4⟩, al, cap, c5, h1, h2, h3⟩ := h
  refine ⟨h0, hs, ⟨by rw [hc _ (by omega) (by omega)]; exact c0, by rw [hc _ (by omega) (by omega)]; exact c1, by rw [hc _ (by omega) (by omega)]; exact c2, by rw [hc _ (by omega) (by omega)]; exact c3, by rw [hc _ (by omega) (by omega)]; exact c4⟩, al, cap, by rw [hc _ (by omega) (by omega)]; exact c5, h1, h2, ?_⟩
  rcases h3 with h3 | ⟨b', off', e1, e2, e3, e4⟩
  · exact .inl h3
  · have hh := hk.2 b' e2 e3
    exact .inr ⟨b', off', e1, Nat.lt_of_lt_of_le e2 hk.1, hh.1, NodesAt.go hk ks hh.2 e4⟩
theorem nodes_push {ok : Nat → Prop} {w : World} {g n : Nat} {l : List Rx} {r : Rx} {x0 x1 x2 x3 x4 x5 : Value} (hr : Room w g n) (hl : (l.length + 1) * 6 ≤ n) (hg : ¬ ok g) (h : NodesAt ok w g 0 l) (hv : ReAt ok w (.agg #[x0, x1, x2, x3, x4, x5]) r) :
    NodesAt ok (put6 w g (l.length * 6) x0 x1 x2 x3 x4 x5) g 0 (l ++ [r]) := by
  obtain ⟨hR, ⟨c0, c1, c2, c3, c4, c5⟩, hfar⟩ := put6_at hr (off := l.length * 6) (by omega) x0 x1 x2 x3 x4 x5
  have hk : Kept ok ok w (put6 w g (l.length * 6) x0 x1 x2 x3 x4 x5) := ⟨by rw [put6_size]; exact Nat.le_refl _, fun b _ hb => ⟨hb, put6_other _ _ _ _ _ _ _ _ _ (fun e => hg (e ▸ hb))⟩⟩
  refine nodesAt_of fun i hi => ?_
  by_cases e : i < l.length
  · rw [List.getElem_append_left e]
    exact (nodesAt_get h i e).cells hk fun o h1 h2 => hfar o (.inl (by omega))
  · have : i = l.length := by simp at hi; omega
    subst this
    rw [List.getElem_append_right (Nat.le_refl _)]
    simp only [Nat.sub_self, List.getElem_cons_zero, Nat.zero_add]
    exact node_at (hv.go hk) c0 c1 c2 c3 c4 c5
theorem room_made (w : World) (z : Array Value) (n : Nat) : Room (w.alloc (.cells (madeCells z n) 27)) w.heap.size n := ⟨_, blk_new w _, size_madeCells z n⟩
def zeroR : Array Value := #[.int .u8 0, .int .u64 0, .int .u64 0, .int .u64 0, .int .u64 0, .slice none 0 0]
theorem make_re (n : Nat) (hn : n < 2199023255552) (u : World) : (Instr.makeSlice 25 (.int .i64 (n : Int)) (.int .i64 (n : Int))).run Try.prog u =
    .ok (.slice (some ⟨u.heap.size, 0, none⟩) n n) (u.alloc (.cells (madeCells zeroR (n * 6)) 27)) := by
  obtain ⟨i0, hi, hz0, hz1, hz2⟩ := info_parts infoR
  have h := run_make (P := Try.prog) u 25 27 i0 _ Try.underlying25 hi hz0 .i64 .i64 (n : Int) (n : Int) (by omega) (Int.le_refl _) (by rw [hz2]; omega) (by omega)
  simpa [hz1, Value.cells, zeroR] using h
open Go.RowKit
def nilBlk : Obj := .cells #[.int .u8 0, .int .u64 0, .int .u64 0, .int .u64 0, .int .u64 0, .slice none 0 0] 27
def reBlk (k a b c d : Nat) (sl : Value) : Obj := .cells #[.int .u8 k, .int .u64 a, .int .u64 b, .int .u64 c, .int .u64 d, sl] 27
def cloneInv (k a b c d : Nat) (sl : Value) (ks : List Rx) (w : World) (y : Value) (wr : World) : Prop := ∃ i : Nat, i ≤ ks.length ∧ y = .int .i64 i ∧
  wr.heap[w.heap.size]? = some (reBlk k a b c d sl) ∧ wr.heap[w.heap.size + 1]? = some nilBlk ∧ Room wr (w.heap.size + 2) (ks.length * 6) ∧
  NodesAt (New (w.heap.size + 3)) wr (w.heap.size + 2) 0 (ks.take i) ∧ Below w.heap.size w wr
set_option maxHeartbeats 4000000 in
theorem clone_any (N : Nat) : ∀ (r : Rx), r.size ≤ N → ∀ (ok : Nat → Prop) (v : Value) (w : World), ReAt ok w v r →
    Calls Try.prog 82 #[v] w (NewPost r w) := by
  induction N with
  | zero => intro r h; have := r.size_pos; omega
  | succ N ih =>
    rintro ⟨k, s, ks⟩ hN ok v w hR
    obtain ⟨hk, hs, al, cap, rfl, hcap, hmax, hrow⟩ := hR
    have hN' : Rx.sizes ks ≤ N := by simp [Rx.size] at hN; omega
    have IH := Lib.hid ih
    have HR := Lib.hid hrow
    obtain ⟨sa, sb, sc, sd⟩ := s
    clear ih hrow hN
    by_cases hks : ks = []
    · subst hks
      go_enter Try.func82, Try.ntmps82
      go_wp2
      refine ret_re (blk_at _ _ (by simp)) Try.results82 rfl rfl ⟨_, rfl, ?_, ((Below.refl _ w).alloc (Nat.le_refl _) _).alloc (by simp) _⟩
      exact bareAt _ _ k ⟨sa, sb, sc, sd⟩ hk hs
    · have hpos : 0 < ks.length := List.length_pos_iff.2 hks
      have e0 : ((ks.length : Int) == 0) = false := by simp; omega
      have hmk := make_re ks.length hmax
      clear hks
      go_enter Try.func82, Try.ntmps82
      go_wp2
      go_loopw [19] (fun y wr => cloneInv k sa sb sc sd (.slice al ks.length cap) ks w y wr) (fun y _ => ks.length - (intOf y).toNat)
      case atStart =>
        refine ⟨0, Nat.zero_le _, rfl, ?_, ?_, ?_, by simp only [List.take_zero]; unfold NodesAt; trivial, (((Below.refl _ w).alloc (Nat.le_refl _) _).alloc (by simp) _).alloc (by simp; omega) _⟩
        · exact (Below.heap_alloc _ _ _ (by simp; omega)).trans ((Below.heap_alloc _ _ _ (by simp)).trans (blk_new w _))
        · exact (Below.heap_alloc _ _ _ (by simp)).trans (blk_at _ _ (by simp))
        · have := room_made ((w.alloc (reBlk k sa sb sc sd (.slice al ks.length cap))).alloc nilBlk) zeroR (ks.length * 6)
          simpa [reBlk, nilBlk] using this
      case round =>
        obtain ⟨i, hi, rfl, hb0, hb1, hroom, hnodes, hb⟩ := hrel
        have HB0 := Lib.hid hb0
        have HB1 := Lib.hid hb1
        have HN := Lib.hid hnodes
        have HM := Lib.hid hroom
        clear hb0 hb1 hnodes hroom
        by_cases hlt : i < ks.length
        · obtain ⟨b, off, hab, hblt, hnode⟩ := HR.out.kid hlt
          subst hab
          have hkid := NodeAt.below hb _ hblt hnode
          have hkz := size_kid hlt
          have htk : ks.take (i + 1) = ks.take i ++ [ks[i]] := List.take_succ_eq_append_getElem hlt
          have hlen : (ks.take i).length = i := by simp; omega
          have HTK := Lib.hid htk
          have HLEN := Lib.hid hlen
          clear htk hlen
          generalize ks[i] = kid at *
          obtain ⟨k', ⟨ta, tb, tc, td⟩, ks'⟩ := kid
          obtain ⟨al', cap', ⟨c0, c1, c2, c3, c4, c5⟩, hre⟩ := hkid.read
          simp only at c0 c1 c2 c3 c4 c5
          have HRE := Lib.hid hre
          clear hkid hnode hre
          go_wp2_with fail
          refine (IH.out _ (by omega) ok _ _ (HRE.out.below ((Below.refl _ wr).alloc (Nat.le_refl _) _))).mono ?_
          rintro e w3 ⟨v, rfl, hv, hb3⟩
          obtain ⟨x0, x1, x2, x3, x4, bl, n', cp, rfl⟩ := cells_re hv
          have hgk := HM.out.lt
          have hbr : Below wr.heap.size wr w3 := ((Below.refl _ wr).alloc (Nat.le_refl _) _).trans (hb3.mono (by simp))
          have hroom : Room w3 (w.heap.size + 1 + 1) (ks.length * 6) := HM.out.of (hbr.block _ hgk)
          have hnodes : NodesAt (New (w.heap.size + 3)) w3 (w.heap.size + 1 + 1) 0 (ks.take i) := NodesAt.below hbr _ hgk HN.out
          have hv3 := hv.imp (ok' := New (w.heap.size + 3)) fun b _ h => by
            unfold New at h ⊢; simp at h; omega
          have hlen := HLEN.out
          have hpush := nodes_push hroom (by rw [hlen]; omega) (by unfold New; omega) hnodes hv3
          rw [hlen, ← HTK.out] at hpush
          have hput := (put6_at hroom (off := i * 6) (by omega) (.int .u8 x0) (.int .u64 x1) (.int .u64 x2) (.int .u64 x3) (.int .u64 x4) (.slice bl n' cp)).1
          have hbp := put6_below (hb.trans (hbr.mono hb.size)) (g := w.heap.size + 1 + 1) (by omega) (i * 6) (.int .u8 x0) (.int .u64 x1) (.int .u64 x2) (.int .u64 x3) (.int .u64 x4) (.slice bl n' cp)
          have ho := fun b (h : b ≠ w.heap.size + 1 + 1) => put6_other w3 (w.heap.size + 1 + 1) (i * 6) (.int .u8 x0) (.int .u64 x1) (.int .u64 x2) (.int .u64 x3) (.int .u64 x4) (.slice bl n' cp) h
          have h0 := (ho w.heap.size (by omega)).trans ((hbr.block _ (by omega)).trans HB0.out)
          have h1 := (ho (w.heap.size + 1) (by omega)).trans ((hbr.block _ (by omega)).trans HB1.out)
          obtain ⟨⟨z0, q0⟩, f0⟩ := hroom.cells (i * 6) (by omega)
          obtain ⟨⟨z1, q1⟩, f1⟩ := hroom.cells (i * 6 + 1) (by omega)
          obtain ⟨⟨z2, q2⟩, f2⟩ := hroom.cells (i * 6 + 2) (by omega)
          obtain ⟨⟨z3, q3⟩, f3⟩ := hroom.cells (i * 6 + 3) (by omega)
          obtain ⟨⟨z4, q4⟩, f4⟩ := hroom.cells (i * 6 + 4) (by omega)
          obtain ⟨⟨z5, q5⟩, f5⟩ := hroom.cells (i * 6 + 5) (by omega)
          unfold put6 at hpush hput hbp h0 h1
          have HPUSH := Lib.hid hpush
          have HPUT := Lib.hid hput
          have HBP := Lib.hid hbp
          have H0 := Lib.hid h0
          have H1 := Lib.hid h1
          clear hv hb3 hbr hroom hnodes hv3 hlen hpush hput hbp ho h0 h1 c0 c1 c2 c3 c4 c5
          go_wp2
          exact ⟨⟨i + 1, by omega, by go_num, H0.out, H1.out, HPUT.out, HPUSH.out, HBP.out⟩, by simp [intOf]; omega⟩
        · have he : ks.take i = ks := List.take_of_length_le (by omega)
          rw [he] at HN
          obtain ⟨d0, d1, d2, d3, d4, d5, f0, f1, f2, f3, f4, f5⟩ := cellsR HB0.out
          obtain ⟨g0, g1, g2, g3, g4, g5, p0, p1, p2, p3, p4, p5⟩ := cellsR HB1.out
          have hgk := HM.out.lt
          have hb4 : (wr.setCell ⟨w.heap.size, 5, none⟩ (.slice (some ⟨w.heap.size + 1 + 1, 0, none⟩) ks.length ks.length)).heap[w.heap.size + 1]? = some nilBlk := (Below.heap_setCell _ _ _ _ (by simp)).trans HB1.out
          have hp := putR hb4 (.int .u8 k) (.int .u64 sa) (.int .u64 sb) (.int .u64 sc) (.int .u64 sd) (.slice (some ⟨w.heap.size + 1 + 1, 0, none⟩) ks.length ks.length)
          have hbb := putB (hb.setCell (p := ⟨w.heap.size, 5, none⟩) (Nat.le_refl _) (.slice (some ⟨w.heap.size + 1 + 1, 0, none⟩) ks.length ks.length)) (by omega : w.heap.size ≤ w.heap.size + 1) (.int .u8 k) (.int .u64 sa) (.int .u64 sb) (.int .u64 sc) (.int .u64 sd) (.slice (some ⟨w.heap.size + 1 + 1, 0, none⟩) ks.length ks.length)
          have hfar : ∀ b, b ≠ w.heap.size → b ≠ w.heap.size + 1 → (putW (wr.setCell ⟨w.heap.size, 5, none⟩ (.slice (some ⟨w.heap.size + 1 + 1, 0, none⟩) ks.length ks.length)) (w.heap.size + 1) (.int .u8 k) (.int .u64 sa) (.int .u64 sb) (.int .u64 sc) (.int .u64 sd) (.slice (some ⟨w.heap.size + 1 + 1, 0, none⟩) ks.length ks.length)).heap[b]? = wr.heap[b]? := by
            intro b n0 n1
            unfold putW
            rw [Below.heap_setCell _ _ _ _ n1, Below.heap_setCell _ _ _ _ n1, Below.heap_setCell _ _ _ _ n1, Below.heap_setCell _ _ _ _ n1, Below.heap_setCell _ _ _ _ n1, Below.heap_setCell _ _ _ _ n1, Below.heap_setCell _ _ _ _ n0]
          have hsz : (putW (wr.setCell ⟨w.heap.size, 5, none⟩ (.slice (some ⟨w.heap.size + 1 + 1, 0, none⟩) ks.length ks.length)) (w.heap.size + 1) (.int .u8 k) (.int .u64 sa) (.int .u64 sb) (.int .u64 sc) (.int .u64 sd) (.slice (some ⟨w.heap.size + 1 + 1, 0, none⟩) ks.length ks.length)).heap.size = wr.heap.size := by simp [putW, World.setCell]
          have hrow : RowAt (New w.heap.size) (putW (wr.setCell ⟨w.heap.size, 5, none⟩ (.slice (some ⟨w.heap.size + 1 + 1, 0, none⟩) ks.length ks.length)) (w.heap.size + 1) (.int .u8 k) (.int .u64 sa) (.int .u64 sb) (.int .u64 sc) (.int .u64 sd) (.slice (some ⟨w.heap.size + 1 + 1, 0, none⟩) ks.length ks.length)) (some ⟨w.heap.size + 1 + 1, 0, none⟩) ks := by
            refine .inr ⟨_, _, rfl, by rw [hsz]; exact hgk, by unfold New; omega, NodesAt.go (ok := New (w.heap.size + 3)) ⟨by rw [hsz]; exact Nat.le_refl _, fun b _ h => ?_⟩ ks (hfar _ (by omega) (by omega)) HN.out⟩
            unfold New at h
            exact ⟨by unfold New; omega, hfar b (by omega) (by omega)⟩
          unfold putW at hp hbb hrow
          have HP := Lib.hid hp
          have HBB := Lib.hid hbb
          have HROW := Lib.hid hrow
          clear hp hbb hrow hfar hsz hb4
          go_wp2
          exact ret_re HP.out Try.results82 rfl rfl ⟨_, rfl, ⟨hk, hs, _, _, rfl, Nat.le_refl _, hmax, HROW.out⟩, HBB.out⟩
theorem cloneR (r : Rx) {ok : Nat → Prop} (v : Value) (w : World) (h : ReAt ok w v r) : Calls Try.prog 82 #[v] w (NewPost r w) := clone_any r.size r (Nat.le_refl _) ok v w h
open Go.RowKit
def foldR (k o : Nat) : List Rx → Rx
  | [] => .node o Ws.nil []
  | [r] => r
  | r :: r' :: rs => .node k Ws.nil [r, foldR k o (r' :: rs)]
theorem foldR_cons (k o : Nat) (r : Rx) {l : List Rx} (h : l ≠ []) : foldR k o (r :: l) = .node k Ws.nil [r, foldR k o l] := by
  cases l with
  | nil => exact absurd rfl h
  | cons a t => rfl
def Own (n g b : Nat) : Prop := n + 1 ≤ b ∧ b ≠ g
def chainInv (k o : Nat) (l : List Rx) (w : World) (g : Nat) (y : Value) (wr : World) : Prop := ∃ (j : Nat) (v : Value) (x0 x1 x2 x3 x4 : Int) (al : Option Addr) (n cap : Nat), j < l.length ∧ y = .int .i64 ((j : Int) - 1) ∧
  v = .agg #[.int .u8 x0, .int .u64 x1, .int .u64 x2, .int .u64 x3, .int .u64 x4, .slice al n cap] ∧
  wr.heap[g]? = some (.cells #[.int .u8 x0, .int .u64 x1, .int .u64 x2, .int .u64 x3, .int .u64 x4, .slice al n cap] 27) ∧ wr.heap[w.heap.size]? = some nilBlk ∧
  ReAt (Own w.heap.size g) wr v (foldR k o (l.drop j)) ∧ Below w.heap.size w wr
theorem putW_size (w : World) (g : Nat) (y0 y1 y2 y3 y4 y5 : Value) : (putW w g y0 y1 y2 y3 y4 y5).heap.size = w.heap.size := by simp [putW, World.setCell]
theorem putW_other (w : World) (g : Nat) (y0 y1 y2 y3 y4 y5 : Value) {b : Nat} (h : b ≠ g) : (putW w g y0 y1 y2 y3 y4 y5).heap[b]? = w.heap[b]? := by
  unfold putW
  rw [Below.heap_setCell _ _ _ _ h, Below.heap_setCell _ _ _ _ h, Below.heap_setCell _ _ _ _ h, Below.heap_setCell _ _ _ _ h, Below.heap_setCell _ _ _ _ h, Below.heap_setCell _ _ _ _ h]
def chainW (w' : World) (g k : Nat) (z0 z1 z2 z3 z4 z5 y0 y1 y2 y3 y4 y5 : Value) : World :=
  (putW w' g (.int .u8 k) (.int .u64 0) (.int .u64 0) (.int .u64 0) (.int .u64 0) (.slice (some ⟨w'.heap.size, 0, none⟩) 2 2)).alloc (.cells #[z0, z1, z2, z3, z4, z5, y0, y1, y2, y3, y4, y5] 27)
theorem chain_step {n0 g k : Nat} {w wr w' : World} {z0 z1 z2 z3 z4 z5 y0 y1 y2 y3 y4 y5 : Value} {r t : Rx} (hk : k < 256) (hn0 : n0 + 1 ≤ g)
    (hG : wr.heap[g]? = some (.cells #[y0, y1, y2, y3, y4, y5] 27)) (hN : wr.heap[n0]? = some nilBlk) (hv : ReAt (Own n0 g) wr (.agg #[y0, y1, y2, y3, y4, y5]) t)
    (hv2 : ReAt (New wr.heap.size) w' (.agg #[z0, z1, z2, z3, z4, z5]) r) (hb2 : Below wr.heap.size wr w') (hb : Below n0 w wr) :
    (chainW w' g k z0 z1 z2 z3 z4 z5 y0 y1 y2 y3 y4 y5).heap[g]? = some (.cells #[.int .u8 k, .int .u64 0, .int .u64 0, .int .u64 0, .int .u64 0, .slice (some ⟨w'.heap.size, 0, none⟩) 2 2] 27) ∧
    (chainW w' g k z0 z1 z2 z3 z4 z5 y0 y1 y2 y3 y4 y5).heap[n0]? = some nilBlk ∧
    ReAt (Own n0 g) (chainW w' g k z0 z1 z2 z3 z4 z5 y0 y1 y2 y3 y4 y5) (.agg #[.int .u8 k, .int .u64 0, .int .u64 0, .int .u64 0, .int .u64 0, .slice (some ⟨w'.heap.size, 0, none⟩) 2 2]) (.node k Ws.nil [r, t]) ∧
    Below n0 w (chainW w' g k z0 z1 z2 z3 z4 z5 y0 y1 y2 y3 y4 y5) := by
  have hg : g < wr.heap.size := (Array.getElem?_eq_some_iff.1 hG).1
  have hs := hb2.size
  have hG' : w'.heap[g]? = some (.cells #[y0, y1, y2, y3, y4, y5] 27) := (hb2.block g hg).trans hG
  have hsz := putW_size w' g (.int .u8 k) (.int .u64 0) (.int .u64 0) (.int .u64 0) (.int .u64 0) (.slice (some ⟨w'.heap.size, 0, none⟩) 2 2)
  have hold : ∀ b, b < w'.heap.size → b ≠ g → (chainW w' g k z0 z1 z2 z3 z4 z5 y0 y1 y2 y3 y4 y5).heap[b]? = w'.heap[b]? := fun b h1 h2 =>
    (Below.heap_alloc _ _ _ (by rw [hsz]; exact h1)).trans (putW_other _ _ _ _ _ _ _ _ h2)
  have hsize : w'.heap.size ≤ (chainW w' g k z0 z1 z2 z3 z4 z5 y0 y1 y2 y3 y4 y5).heap.size := by
    unfold chainW; rw [World.size_alloc, hsz]; omega
  refine ⟨(Below.heap_alloc _ _ _ (by rw [hsz]; omega)).trans (putR hG' _ _ _ _ _ _), (hold n0 (by omega) (by omega)).trans ((hb2.block n0 (by omega)).trans hN), ?_, ?_⟩
  · refine ⟨hk, Ws.nil_ok, _, _, rfl, Nat.le_refl _, by simp, row_two (blk_at _ _ hsz.symm) ?_ ?_ ?_⟩
    · unfold Own; omega
    · refine hv2.go ⟨hsize, fun b h1 h2 => ⟨?_, hold b h1 ?_⟩⟩
      · unfold New at h2; unfold Own; omega
      · unfold New at h2; omega
    · refine hv.go ⟨Nat.le_trans hs hsize, fun b h1 h2 => ⟨h2, ?_⟩⟩
      rw [hold b (by omega) h2.2, hb2.block b h1]
  · have h1 : Below n0 w w' := hb.trans (hb2.mono (by omega))
    exact (putB h1 (by omega : n0 ≤ g) _ _ _ _ _ _).alloc (by rw [hsz]; omega) _
set_option maxHeartbeats 4000000 in
theorem chain_any {ok : Nat → Prop} (k o : Nat) (l : List Rx) (al : Option Addr) (cap : Nat) (w : World) (hk : k < 256) (ho : o < 256) (hlen : l.length < 2199023255552) (h : RowAt ok w al l) :
    Calls Try.prog 78 #[.int .u8 k, .int .u8 o, .slice al l.length cap] w (NewPost (foldR k o l) w) := by
  have HR := Lib.hid h
  clear h
  by_cases hl : l = []
  · subst hl
    go_enter Try.func78, Try.ntmps78
    go_wp2
    exact ret_re (blk_new w _) Try.results78 rfl rfl ⟨_, rfl, bareAt _ _ o Ws.nil ho Ws.nil_ok, (Below.refl _ w).alloc (Nat.le_refl _) _⟩
  · have hpos : 0 < l.length := List.length_pos_iff.2 hl
    have e0 : ((l.length : Int) == 0) = false := by simp; omega
    obtain ⟨b, off, hab, hblt, hnode⟩ := HR.out.kid (i := l.length - 1) (by omega)
    subst hab
    have hb0 := (Below.refl _ w).alloc (Nat.le_refl _) nilBlk
    have hkid := NodeAt.below hb0 _ hblt hnode
    have hdrop : l.drop (l.length - 1) = [l[l.length - 1]'(by omega)] := by
      rw [List.drop_eq_getElem_cons (by omega), List.drop_of_length_le (by omega)]
    have HD := Lib.hid hdrop
    clear hdrop hl
    generalize l[l.length - 1]'(by omega) = kid at *
    obtain ⟨k', ⟨ta, tb, tc, td⟩, ks'⟩ := kid
    obtain ⟨al', cap', ⟨c0, c1, c2, c3, c4, c5⟩, hre⟩ := hkid.read
    simp only at c0 c1 c2 c3 c4 c5
    unfold nilBlk at c0 c1 c2 c3 c4 c5
    have HRE := Lib.hid hre
    clear hkid hnode hre
    have q1 : (l.length : Int) - 1 = ((l.length - 1 : Nat) : Int) := by omega
    have q2 : ((l.length - 1 : Nat) : Int) < (l.length : Int) := by omega
    go_enter Try.func78, Try.ntmps78
    go_wp2_with fail
    refine (cloneR _ _ _ HRE.out).mono ?_
    rintro e w1 ⟨v, rfl, hv, hb1⟩
    obtain ⟨x0, x1, x2, x3, x4, bl, n', cp, rfl⟩ := cells_re hv
    have hsz1 : w.heap.size + 1 ≤ w1.heap.size := by have := hb1.size; simpa using this
    have hbw : Below w.heap.size w w1 := hb0.trans (hb1.mono (by simp))
    have hnb : w1.heap[w.heap.size]? = some nilBlk := (hb1.block _ (by simp)).trans (blk_new w _)
    have HV := Lib.hid hv
    clear hv hb1 c0 c1 c2 c3 c4 c5 HRE hb0
    have HBW := Lib.hid hbw
    have HNB := Lib.hid hnb
    clear hbw hnb
    go_wp2
    go_loopw [9] (fun y wr => chainInv k o l w w1.heap.size y wr) (fun y _ => (intOf y + 1).toNat)
    case atStart =>
      refine ⟨l.length - 1, _, x0, x1, x2, x3, x4, bl, n', cp, by omega, ?_, rfl, blk_new w1 _, (Below.heap_alloc _ _ _ (by omega)).trans HNB.out, ?_, HBW.out.alloc (by omega) _⟩
      · first | rfl | (congr 1; omega)
      · rw [HD.out]
        refine HV.out.go ⟨by simp, fun b hb h => ⟨?_, Below.heap_alloc _ _ _ hb⟩⟩
        unfold New at h; unfold Own
        simp at h; omega
    case round =>
      obtain ⟨j, v, y0, y1, y2, y3, y4, yl, yn, yc, hj, rfl, rfl, hg, hn, hv, hb⟩ := hrel
      have HG := Lib.hid hg
      have HN := Lib.hid hn
      have HV' := Lib.hid hv
      clear hg hn hv HV HBW HNB HD
      have hgs := (Array.getElem?_eq_some_iff.1 HG.out).1
      by_cases hj0 : j = 0
      · subst hj0
        obtain ⟨d0, e1, e2, e3, e4, e5, f0, f1, f2, f3, f4, f5⟩ := cellsR HG.out
        obtain ⟨g0, g1, g2, g3, g4, g5, p0, p1, p2, p3, p4, p5⟩ := cellsR HN.out
        have hp := putR HN.out (.int .u8 y0) (.int .u64 y1) (.int .u64 y2) (.int .u64 y3) (.int .u64 y4) (.slice yl yn yc)
        have hbb := putB hb (Nat.le_refl w.heap.size) (.int .u8 y0) (.int .u64 y1) (.int .u64 y2) (.int .u64 y3) (.int .u64 y4) (.slice yl yn yc)
        have hre : ReAt (New w.heap.size) (putW wr w.heap.size (.int .u8 y0) (.int .u64 y1) (.int .u64 y2) (.int .u64 y3) (.int .u64 y4) (.slice yl yn yc)) (.agg #[.int .u8 y0, .int .u64 y1, .int .u64 y2, .int .u64 y3, .int .u64 y4, .slice yl yn yc]) (foldR k o l) := by
          have h := HV'.out
          rw [List.drop_zero] at h
          refine h.go ⟨by rw [putW_size]; exact Nat.le_refl _, fun b _ hb => ?_⟩
          unfold Own at hb
          exact ⟨by unfold New; omega, putW_other _ _ _ _ _ _ _ _ (by omega)⟩
        unfold putW at hp hbb hre
        have HP := Lib.hid hp
        have HBB := Lib.hid hbb
        have HRE := Lib.hid hre
        clear hp hbb hre
        go_wp2
        exact ret_re HP.out Try.results78 rfl rfl ⟨_, rfl, HRE.out, HBB.out⟩
      · have d1 : decide (0 ≤ (j : Int) - 1) = true := by simp; omega
        obtain ⟨b2, off2, hab2, hblt2, hnode2⟩ := HR.out.kid (i := j - 1) (by omega)
        simp at hab2
        obtain ⟨rfl, rfl⟩ := hab2
        have hkid2 := NodeAt.below hb _ hblt2 hnode2
        have hdrop : l.drop (j - 1) = l[j - 1]'(by omega) :: l.drop j := by
          rw [List.drop_eq_getElem_cons (by omega)]; congr 2; omega
        have hne : l.drop j ≠ [] := by simp; omega
        have hfo := foldR_cons k o (l[j - 1]'(by omega)) hne
        rw [← hdrop] at hfo
        have HFO := Lib.hid hfo
        clear hdrop hne hfo hnode2
        generalize l[j - 1]'(by omega) = kid2 at *
        obtain ⟨k2, ⟨sa, sb, sc, sd⟩, ks2⟩ := kid2
        obtain ⟨al2, cap2, ⟨c0, c1, c2, c3, c4, c5⟩, hre⟩ := hkid2.read
        simp only at c0 c1 c2 c3 c4 c5
        have HRE := Lib.hid hre
        clear hkid2 hre
        have r1 : (j : Int) - 1 = ((j - 1 : Nat) : Int) := by omega
        have r2 : ((j - 1 : Nat) : Int) < (l.length : Int) := by omega
        obtain ⟨d0, e1, e2, e3, e4, e5, f0, f1, f2, f3, f4, f5⟩ := cellsR HG.out
        go_wp2_with fail
        have KC := Lib.hid fun W (h : Below wr.heap.size wr W) => cloneR (.node k2 ⟨sa, sb, sc, sd⟩ ks2) _ W (HRE.out.below h)
        go_region_with (go_at_call 82; refine (KC.out _ (Below.refl _ _).drew).mono ?_; (rintro e w' ⟨v2, rfl, hv2, hb2⟩); obtain ⟨z0, z1, z2, z3, z4, zl, zn, zc, rfl⟩ := cells_re hv2; obtain ⟨d0', e1', e2', e3', e4', e5', f0', f1', f2', f3', f4', f5'⟩ := cellsR ((hb2.block _ hgs).trans HG.out); have hgs' : w1.heap.size < w'.heap.size := Nat.lt_of_lt_of_le hgs hb2.size)
        all_goals
          obtain ⟨s1, s2, s3, s4⟩ := chain_step (k := k) hk hsz1 HG.out HN.out HV'.out hv2 ((Below.refl _ wr).drew.trans hb2) hb
          have HS1 := Lib.hid s1
          have HS2 := Lib.hid s2
          have HS3 := Lib.hid s3
          have HS4 := Lib.hid s4
          unfold chainW putW at HS1 HS2 HS3 HS4
          clear s1 s2 s3 s4
          go_wp2
          refine ⟨⟨j - 1, _, k, 0, 0, 0, 0, _, 2, 2, by omega, ?_, rfl, HS1.out, HS2.out, ?_, HS4.out⟩, ?_⟩
          · first | rfl | (congr 1; omega)
          · rw [HFO.out]; exact HS3.out
          · simp [intOf]; omega
theorem pass_re {w w1 : World} {r : Rx} {x0 x1 x2 x3 x4 x5 : Value} (hv : ReAt (New (w.alloc nilBlk).heap.size) w1 (.agg #[x0, x1, x2, x3, x4, x5]) r) (hb1 : Below (w.alloc nilBlk).heap.size (w.alloc nilBlk) w1) :
    w1.heap[w.heap.size]? = some nilBlk ∧ (putW w1 w.heap.size x0 x1 x2 x3 x4 x5).heap[w.heap.size]? = some (.cells #[x0, x1, x2, x3, x4, x5] 27) ∧
    ReAt (New w.heap.size) (putW w1 w.heap.size x0 x1 x2 x3 x4 x5) (.agg #[x0, x1, x2, x3, x4, x5]) r ∧ Below w.heap.size w (putW w1 w.heap.size x0 x1 x2 x3 x4 x5) := by
  have hn : w1.heap[w.heap.size]? = some nilBlk := (hb1.block _ (by simp)).trans (blk_new w _)
  refine ⟨hn, putR hn _ _ _ _ _ _, ?_, putB (((Below.refl _ w).alloc (Nat.le_refl _) _).trans (hb1.mono (by simp))) (Nat.le_refl _) _ _ _ _ _ _⟩
  refine hv.go ⟨by rw [putW_size]; exact Nat.le_refl _, fun b _ h => ?_⟩
  unfold New at h
  simp at h
  exact ⟨by unfold New; omega, putW_other _ _ _ _ _ _ _ _ (by omega)⟩
theorem then_any {ok : Nat → Prop} (l : List Rx) (al : Option Addr) (cap : Nat) (w : World) (hlen : l.length < 2199023255552) (h : RowAt ok w al l) :
    Calls Try.prog 72 #[.slice al l.length cap] w (NewPost (foldR 4 2 l) w) := by
  have K := Lib.hid (chain_any 4 2 l al cap (w.alloc nilBlk) (by decide) (by decide) hlen (h.below ((Below.refl _ w).alloc (Nat.le_refl _) _)))
  generalize foldR 4 2 l = r at *
  go_enter Try.func72, Try.ntmps72
  go_wp2_with fail
  refine K.out.mono ?_
  rintro e w1 ⟨v, rfl, hv, hb1⟩
  obtain ⟨x0, x1, x2, x3, x4, bl, n', cp, rfl⟩ := cells_re hv
  obtain ⟨hn, h1, h2, h3⟩ := pass_re hv hb1
  obtain ⟨g0, g1, g2, g3, g4, g5, p0, p1, p2, p3, p4, p5⟩ := cellsR hn
  unfold putW at h1 h2 h3
  have H1 := Lib.hid h1
  have H2 := Lib.hid h2
  have H3 := Lib.hid h3
  clear hv hb1 hn h1 h2 h3
  go_wp2
  exact ret_re H1.out Try.results72 rfl rfl ⟨_, rfl, H2.out, H3.out⟩
end Go.Proofs.Ytiegejbbjlhpdaa
/- Lemmas of mine. -/
namespace Go.Proofs.Ytiegejbbjlhpdaa
inductive Ex.Fit : Ex → List UInt8 → Prop
  | eps : Ex.Fit .eps []
  | cls {s : Ws} {c : UInt8} : s.has c.toNat = true → Ex.Fit (.cls s) [c]
  | seq {a b : Ex} {u v : List UInt8} : Ex.Fit a u → Ex.Fit b v → Ex.Fit (.seq a b) (u ++ v)
  | altL {a b : Ex} {u : List UInt8} : Ex.Fit a u → Ex.Fit (.alt a b) u
  | altR {a b : Ex} {u : List UInt8} : Ex.Fit b u → Ex.Fit (.alt a b) u
  | none {a : Ex} : Ex.Fit (.star a) []
  | more {a : Ex} {u v : List UInt8} : Ex.Fit a u → Ex.Fit (.star a) v → Ex.Fit (.star a) (u ++ v)
theorem fit_empty {u : List UInt8} : ¬ Ex.Fit .empty u := fun h => by cases h
theorem fit_eps {u : List UInt8} : Ex.Fit .eps u ↔ u = [] := ⟨fun h => by cases h; rfl, fun h => by rw [h]; exact .eps⟩
theorem fit_cls {s : Ws} {u : List UInt8} : Ex.Fit (.cls s) u ↔ ∃ c : UInt8, u = [c] ∧ s.has c.toNat = true := ⟨fun h => by cases h with | cls h => exact ⟨_, rfl, h⟩, fun ⟨c, h1, h2⟩ => by rw [h1]; exact .cls h2⟩
theorem fit_seq {a b : Ex} {u : List UInt8} : Ex.Fit (.seq a b) u ↔ ∃ v w, u = v ++ w ∧ Ex.Fit a v ∧ Ex.Fit b w := ⟨fun h => by cases h with | seq h1 h2 => exact ⟨_, _, rfl, h1, h2⟩, fun ⟨v, w, h, h1, h2⟩ => by rw [h]; exact .seq h1 h2⟩
theorem fit_alt {a b : Ex} {u : List UInt8} : Ex.Fit (.alt a b) u ↔ Ex.Fit a u ∨ Ex.Fit b u := ⟨fun h => by cases h with
  | altL h => exact .inl h
  | altR h => exact .inr h, fun h => h.elim .altL .altR⟩
theorem fit_star {a : Ex} {u : List UInt8} : Ex.Fit (.star a) u ↔ u = [] ∨ ∃ c v w, u = (c :: v) ++ w ∧ Ex.Fit a (c :: v) ∧ Ex.Fit (.star a) w := by
  constructor
  · intro h
    generalize hz : Ex.star a = z at h
    induction h with
    | none => exact .inl rfl
    | @more x u v h1 h2 _ ih =>
      injection hz with hz
      subst hz
      cases u with
      | nil => exact ih rfl
      | cons c u => exact .inr ⟨c, u, v, rfl, h1, h2⟩
    | eps => cases hz
    | cls _ => cases hz
    | seq _ _ => cases hz
    | altL _ => cases hz
    | altR _ => cases hz
  · rintro (rfl | ⟨c, v, w, rfl, h1, h2⟩)
    · exact .none
    · exact .more h1 h2
theorem star_append {a : Ex} {u v : List UInt8} (h : Ex.Fit (.star a) u) (k : Ex.Fit (.star a) v) : Ex.Fit (.star a) (u ++ v) := by
  generalize hz : Ex.star a = z at h
  induction h with
  | none => injection hz with hz; subst hz; exact k
  | more h1 h2 _ ih =>
    injection hz with hz
    subst hz
    rw [List.append_assoc]
    exact .more h1 (ih rfl)
  | eps => cases hz
  | cls _ => cases hz
  | seq _ _ => cases hz
  | altL _ => cases hz
  | altR _ => cases hz
theorem star_one {a : Ex} {u : List UInt8} (h : Ex.Fit a u) : Ex.Fit (.star a) u := by
  have := Ex.Fit.more h .none
  rwa [List.append_nil] at this
theorem star_star {a : Ex} {u : List UInt8} : Ex.Fit (.star (.star a)) u ↔ Ex.Fit (.star a) u := by
  constructor
  · intro h
    generalize hz : Ex.star (.star a) = z at h
    induction h with
    | none => exact .none
    | more h1 h2 _ ih =>
      injection hz with hz
      subst hz
      exact star_append h1 (ih rfl)
    | eps => cases hz
    | cls _ => cases hz
    | seq _ _ => cases hz
    | altL _ => cases hz
    | altR _ => cases hz
  · exact star_one
end Go.Proofs.Ytiegejbbjlhpdaa
/- Lemmas of mine. -/
namespace Go.Proofs.Ytiegejbbjlhpdaa
def segT (s : List UInt8) (i j : Nat) : List UInt8 := (s.drop i).take (j - i)
theorem seg_self (s : List UInt8) (i : Nat) : segT s i i = [] := by simp [segT]
theorem seg_add (s : List UInt8) {i j k : Nat} (h1 : i ≤ j) (h2 : j ≤ k) : segT s i j ++ segT s j k = segT s i k := by
  unfold segT
  rw [show k - i = (j - i) + (k - j) by omega, List.take_add, List.drop_drop, show i + (j - i) = j by omega]
theorem seg_len (s : List UInt8) {i j : Nat} (h1 : i ≤ j) (h2 : j ≤ s.length) : (segT s i j).length = j - i := by
  unfold segT
  rw [List.length_take, List.length_drop]; omega
theorem seg_cut (s : List UInt8) {i j : Nat} (h1 : i ≤ j) (h2 : j ≤ s.length) {u v : List UInt8} (h : segT s i j = u ++ v) : ∃ k, i ≤ k ∧ k ≤ j ∧ segT s i k = u ∧ segT s k j = v := by
  have hl := congrArg List.length h
  rw [seg_len s h1 h2, List.length_append] at hl
  have hk := seg_add s (i := i) (j := i + u.length) (k := j) (by omega) (by omega)
  rw [h] at hk
  have hlen : (segT s i (i + u.length)).length = u.length := by rw [seg_len s (by omega) (by omega)]; omega
  have := List.append_inj hk hlen
  exact ⟨i + u.length, by omega, by omega, this.1, this.2⟩
theorem seg_one (s : List UInt8) {i : Nat} (h : i < s.length) : segT s i (i + 1) = [s[i]] := by
  unfold segT
  rw [show i + 1 - i = 1 by omega, List.drop_eq_getElem_cons h]
  rfl
def EndsP (e : Ex) (s : List UInt8) (F : Nat → Prop) (j : Nat) : Prop := j ≤ s.length ∧ ∃ i, i ≤ j ∧ F i ∧ Ex.Fit e (segT s i j)
theorem ends_empty {s : List UInt8} {F : Nat → Prop} {j : Nat} : ¬ EndsP .empty s F j := fun ⟨_, _, _, _, h⟩ => fit_empty h
theorem ends_eps {s : List UInt8} {F : Nat → Prop} {j : Nat} (hj : j ≤ s.length) : EndsP .eps s F j ↔ F j := by
  constructor
  · rintro ⟨_, i, h1, h2, h3⟩
    have hl := congrArg List.length (fit_eps.1 h3)
    rw [seg_len s h1 hj] at hl
    simp at hl
    obtain rfl : i = j := by omega
    exact h2
  · exact fun h => ⟨hj, j, Nat.le_refl _, h, by rw [seg_self]; exact .eps⟩
theorem ends_cls {s : List UInt8} {F : Nat → Prop} {t : Ws} {j : Nat} : EndsP (.cls t) s F j ↔ ∃ i, ∃ h : i < s.length, j = i + 1 ∧ F i ∧ t.has s[i].toNat = true := by
  constructor
  · rintro ⟨hj, i, h1, h2, h3⟩
    obtain ⟨c, hc, hh⟩ := fit_cls.1 h3
    have hl := congrArg List.length hc
    rw [seg_len s h1 hj] at hl
    simp at hl
    have hi : i < s.length := by omega
    obtain rfl : j = i + 1 := by omega
    rw [seg_one s hi] at hc
    injection hc with hc
    exact ⟨i, hi, rfl, h2, by rw [hc]; exact hh⟩
  · rintro ⟨i, hi, rfl, h2, h3⟩
    exact ⟨by omega, i, by omega, h2, by rw [seg_one s hi]; exact .cls h3⟩
theorem ends_seq {a b : Ex} {s : List UInt8} {F : Nat → Prop} {j : Nat} : EndsP (.seq a b) s F j ↔ EndsP b s (EndsP a s F) j := by
  constructor
  · rintro ⟨hj, i, h1, h2, h3⟩
    obtain ⟨v, w, h, ha, hb⟩ := fit_seq.1 h3
    obtain ⟨k, k1, k2, e1, e2⟩ := seg_cut s h1 hj h
    exact ⟨hj, k, k2, ⟨by omega, i, k1, h2, by rw [e1]; exact ha⟩, by rw [e2]; exact hb⟩
  · rintro ⟨hj, k, k2, ⟨_, i, k1, h2, ha⟩, hb⟩
    exact ⟨hj, i, by omega, h2, by rw [← seg_add s k1 k2]; exact .seq ha hb⟩
theorem ends_alt {a b : Ex} {s : List UInt8} {F : Nat → Prop} {j : Nat} : EndsP (.alt a b) s F j ↔ EndsP a s F j ∨ EndsP b s F j := by
  constructor
  · rintro ⟨hj, i, h1, h2, h3⟩
    rcases fit_alt.1 h3 with h | h
    · exact .inl ⟨hj, i, h1, h2, h⟩
    · exact .inr ⟨hj, i, h1, h2, h⟩
  · rintro (⟨hj, i, h1, h2, h⟩ | ⟨hj, i, h1, h2, h⟩)
    · exact ⟨hj, i, h1, h2, .altL h⟩
    · exact ⟨hj, i, h1, h2, .altR h⟩
theorem ends_star_star {a : Ex} {s : List UInt8} {F : Nat → Prop} {j : Nat} : EndsP (.star (.star a)) s F j ↔ EndsP (.star a) s F j := by
  constructor <;> (rintro ⟨hj, i, h1, h2, h⟩; exact ⟨hj, i, h1, h2, by first | exact star_star.1 h | exact star_star.2 h⟩)
theorem ends_mono {e : Ex} {s : List UInt8} {F G : Nat → Prop} (h : ∀ i, F i → G i) {j : Nat} : EndsP e s F j → EndsP e s G j := fun ⟨hj, i, h1, h2, h3⟩ => ⟨hj, i, h1, h i h2, h3⟩
theorem ends_from {a : Ex} {s : List UInt8} {F : Nat → Prop} {j : Nat} (hj : j ≤ s.length) (h : F j) : EndsP (.star a) s F j := ⟨hj, j, Nat.le_refl _, h, by rw [seg_self]; exact .none⟩
theorem ends_more {a : Ex} {s : List UInt8} {F : Nat → Prop} {j : Nat} (h : EndsP a s (EndsP (.star a) s F) j) : EndsP (.star a) s F j := by
  obtain ⟨hj, k, k2, ⟨_, i, k1, h2, ha⟩, hb⟩ := h
  exact ⟨hj, i, by omega, h2, by rw [← seg_add s k1 k2]; exact star_append ha (star_one hb)⟩
theorem ends_least {a : Ex} {s : List UInt8} {F G : Nat → Prop} (h0 : ∀ i, i ≤ s.length → F i → G i) (h1 : ∀ j, EndsP a s G j → G j) {j : Nat} (h : EndsP (.star a) s F j) : G j := by
  obtain ⟨hj, i, hij, hF, hfit⟩ := h
  have key : ∀ (n i : Nat), j - i ≤ n → i ≤ j → G i → Ex.Fit (.star a) (segT s i j) → G j := by
    intro n
    induction n with
    | zero =>
      intro i hn hij hG _
      obtain rfl : i = j := by omega
      exact hG
    | succ n ih =>
      intro i hn hij hG hf
      rcases fit_star.1 hf with h | ⟨c, v, w, h, ha, hs⟩
      · have hl := congrArg List.length h
        rw [seg_len s hij hj] at hl
        simp at hl
        obtain rfl : i = j := by omega
        exact hG
      · obtain ⟨k, k1, k2, e1, e2⟩ := seg_cut s hij hj h
        have hl := congrArg List.length e1
        rw [seg_len s k1 (by omega)] at hl
        simp at hl
        exact ih k (by omega) k2 (h1 k ⟨by omega, i, k1, hG, by rw [e1]; exact ha⟩) (by rw [e2]; exact hs)
  exact key (j - i) i (Nat.le_refl _) hij (h0 i (by omega) hF) hfit
open Classical in
noncomputable def endsL (e : Ex) (s : List UInt8) (from_ : List Bool) : List Bool := (List.range (s.length + 1)).map fun j => decide (EndsP e s (fun i => from_.getD i false = true) j)
theorem endsL_len (e : Ex) (s : List UInt8) (l : List Bool) : (endsL e s l).length = s.length + 1 := by simp [endsL]
open Classical in
theorem endsL_at (e : Ex) (s : List UInt8) (l : List Bool) (j : Nat) : (endsL e s l).getD j false = true ↔ EndsP e s (fun i => l.getD i false = true) j := by
  unfold endsL
  by_cases h : j ≤ s.length
  · have hl : j < ((List.range (s.length + 1)).map fun j => decide (EndsP e s (fun i => l.getD i false = true) j)).length := by simp; omega
    rw [List.getD_eq_getElem?_getD, List.getElem?_eq_getElem hl]
    simp
  · rw [List.getD_eq_getElem?_getD, List.getElem?_eq_none (by simp; omega)]
    simp only [Option.getD_none, Bool.false_eq_true, false_iff]
    exact fun hh => h hh.1
theorem bools_ext {n : Nat} {l m : List Bool} (hl : l.length = n) (hm : m.length = n) (h : ∀ j, j < n → (l.getD j false = true ↔ m.getD j false = true)) : l = m := by
  refine List.ext_getElem (by omega) fun j h1 h2 => ?_
  have := h j (by omega)
  rw [List.getD_eq_getElem?_getD, List.getD_eq_getElem?_getD, List.getElem?_eq_getElem h1, List.getElem?_eq_getElem h2] at this
  simp only [Option.getD_some] at this
  cases ha : l[j] <;> cases hb : m[j] <;> simp_all
theorem fits_ends (e : Ex) (s : List UInt8) (j : Nat) (hj : j ≤ s.length) : EndsP e s (fun i => i = 0) j ↔ Ex.Fit e (s.take j) := by
  have h0 : segT s 0 j = s.take j := by simp [segT]
  constructor
  · rintro ⟨_, i, _, rfl, h⟩
    rw [← h0]; exact h
  · exact fun h => ⟨hj, 0, Nat.zero_le _, rfl, by rw [h0]; exact h⟩
end Go.Proofs.Ytiegejbbjlhpdaa
/- Lemmas of mine. -/
namespace Go.Proofs.Ytiegejbbjlhpdaa
def Also (H : Nat → Prop) (l : List Nat) : Nat → Prop := fun i => H i ∨ i ∈ l
def Ask (s : List UInt8) (H : Nat → Prop) (l : List Nat) : Prop := l.Nodup ∧ ∀ i ∈ l, i ≤ s.length ∧ ¬ H i
def Tld (e : Ex) (s : List UInt8) (H : Nat → Prop) (l l' : List Nat) : Prop := l'.Nodup ∧ ∀ j, j ∈ l' ↔ EndsP e s (Also H l) j ∧ ¬ EndsP e s H j
theorem also_nil (H : Nat → Prop) : Also H [] = H := by funext i; simp [Also]
theorem also_also (H : Nat → Prop) (l m : List Nat) : Also (Also H l) m = Also H (l ++ m) := by funext i; simp [Also, or_assoc]
theorem endsP_le {e : Ex} {s : List UInt8} {F : Nat → Prop} {j : Nat} (h : EndsP e s F j) : j ≤ s.length := h.1
theorem tld_ask {e : Ex} {s : List UInt8} {H : Nat → Prop} {l l' : List Nat} (h : Tld e s H l l') : Ask s (EndsP e s H) l' := ⟨h.1, fun i hi => ⟨((h.2 i).1 hi).1.1, ((h.2 i).1 hi).2⟩⟩
theorem tld_also {e : Ex} {s : List UInt8} {H : Nat → Prop} {l l' : List Nat} (h : Tld e s H l l') : Also (EndsP e s H) l' = EndsP e s (Also H l) := by
  funext j
  apply propext
  unfold Also
  rw [h.2 j]
  constructor
  · rintro (h1 | ⟨h1, _⟩)
    · exact ends_mono (fun i hi => .inl hi) h1
    · exact h1
  · intro h1
    rcases Classical.em (EndsP e s H j) with h2 | h2
    · exact .inl h2
    · exact .inr ⟨h1, h2⟩
theorem tld_none {e : Ex} {s : List UInt8} {H : Nat → Prop} : Tld e s H [] [] := ⟨List.nodup_nil, fun j => by rw [also_nil]; simp⟩
theorem tld_empty {s : List UInt8} {H : Nat → Prop} {l : List Nat} : Tld .empty s H l [] := ⟨List.nodup_nil, fun j => by simp only [List.not_mem_nil, false_iff, not_and]; exact fun h => (ends_empty h).elim⟩
theorem tld_eps {s : List UInt8} {H : Nat → Prop} {l : List Nat} (h : Ask s H l) : Tld .eps s H l l := ⟨h.1, fun j => by
  constructor
  · intro hj
    obtain ⟨h1, h2⟩ := h.2 j hj
    exact ⟨(ends_eps h1).2 (.inr hj), fun h3 => h2 ((ends_eps h1).1 h3)⟩
  · rintro ⟨h1, h2⟩
    have hj := endsP_le h1
    rw [ends_eps hj] at h1 h2
    exact h1.resolve_left h2⟩
def clsP (t : Ws) (s : List UInt8) (i : Nat) : Bool := match s[i]? with
  | some c => t.has c.toNat
  | none => false
def clsL (t : Ws) (s : List UInt8) (l : List Nat) : List Nat := (l.filter (clsP t s)).map (· + 1)
theorem clsP_iff {t : Ws} {s : List UInt8} {i : Nat} : clsP t s i = true ↔ ∃ h : i < s.length, t.has s[i].toNat = true := by
  unfold clsP
  by_cases h : i < s.length
  · rw [List.getElem?_eq_getElem h]; exact ⟨fun h' => ⟨h, h'⟩, fun ⟨_, h'⟩ => h'⟩
  · rw [List.getElem?_eq_none (by omega)]
    exact ⟨fun h' => (by cases h'), fun ⟨h', _⟩ => absurd h' h⟩
theorem tld_cls {t : Ws} {s : List UInt8} {H : Nat → Prop} {l : List Nat} (h : Ask s H l) : Tld (.cls t) s H l (clsL t s l) := by
  constructor
  · unfold clsL
    have h1 : (l.filter (clsP t s)).Nodup := h.1.filter _
    exact List.Pairwise.map _ (fun a b hab => by omega) h1
  · intro j
    unfold clsL
    rw [List.mem_map]
    constructor
    · rintro ⟨i, hi, rfl⟩
      obtain ⟨h1, h2⟩ := List.mem_filter.1 hi
      obtain ⟨h3, h4⟩ := clsP_iff.1 h2
      refine ⟨ends_cls.2 ⟨i, h3, rfl, .inr h1, h4⟩, fun h5 => ?_⟩
      obtain ⟨k, hk, hk2, hk3, _⟩ := ends_cls.1 h5
      obtain rfl : i = k := by omega
      exact (h.2 i h1).2 hk3
    · rintro ⟨h1, h2⟩
      obtain ⟨i, hi, rfl, h3, h4⟩ := ends_cls.1 h1
      refine ⟨i, List.mem_filter.2 ⟨?_, clsP_iff.2 ⟨hi, h4⟩⟩, rfl⟩
      exact h3.resolve_left fun h5 => h2 (ends_cls.2 ⟨i, hi, rfl, h5, h4⟩)
theorem endsP_seq (a b : Ex) (s : List UInt8) (F : Nat → Prop) : EndsP (.seq a b) s F = EndsP b s (EndsP a s F) := by funext j; exact propext ends_seq
theorem tld_seq {a b : Ex} {s : List UInt8} {H : Nat → Prop} {l l1 l2 : List Nat} (h1 : Tld a s H l l1) (h2 : Tld b s (EndsP a s H) l1 l2) : Tld (.seq a b) s H l l2 := ⟨h2.1, fun j => by
  rw [h2.2 j, tld_also h1, endsP_seq, endsP_seq]⟩
open Classical in
noncomputable def newL (T : Nat → Prop) (l : List Nat) : List Nat := l.filter fun i => decide (¬ T i)
theorem mem_newL {T : Nat → Prop} {l : List Nat} {i : Nat} : i ∈ newL T l ↔ i ∈ l ∧ ¬ T i := by simp [newL]
theorem nodup_newL {T : Nat → Prop} {l : List Nat} (h : l.Nodup) : (newL T l).Nodup := h.filter _
theorem newL_len (T : Nat → Prop) (l : List Nat) : (newL T l).length ≤ l.length := List.length_filter_le _ _
theorem also_newL (T : Nat → Prop) (l : List Nat) : Also T (newL T l) = Also T l := by
  funext i
  apply propext
  unfold Also
  rw [mem_newL]
  constructor
  · rintro (h | ⟨h, _⟩)
    · exact .inl h
    · exact .inr h
  · rintro (h | h)
    · exact .inl h
    · rcases Classical.em (T i) with h2 | h2
      · exact .inl h2
      · exact .inr ⟨h, h2⟩
theorem endsP_alt (a b : Ex) (s : List UInt8) (F : Nat → Prop) (j : Nat) : EndsP (.alt a b) s F j ↔ EndsP a s F j ∨ EndsP b s F j := ends_alt
theorem tld_alt {a b : Ex} {s : List UInt8} {H : Nat → Prop} {l l1 l2 : List Nat} (h1 : Tld a s H l l1) (h2 : Tld b s H l l2) :
    Tld (.alt a b) s H l (newL (EndsP (.alt a b) s H) l1 ++ newL (Also (EndsP (.alt a b) s H) l1) l2) ∧ Also (Also (EndsP (.alt a b) s H) l1) l2 = EndsP (.alt a b) s (Also H l) := by
  have ha := tld_also h1
  have hb := tld_also h2
  have key : Also (Also (EndsP (.alt a b) s H) l1) l2 = EndsP (.alt a b) s (Also H l) := by
    funext j
    apply propext
    rw [endsP_alt, ← ha, ← hb]
    unfold Also
    rw [endsP_alt]
    constructor
    · rintro (((h | h) | h) | h)
      · exact .inl (.inl h)
      · exact .inr (.inl h)
      · exact .inl (.inr h)
      · exact .inr (.inr h)
    · rintro ((h | h) | (h | h))
      · exact .inl (.inl (.inl h))
      · exact .inl (.inr h)
      · exact .inl (.inl (.inr h))
      · exact .inr h
  refine ⟨⟨?_, fun j => ?_⟩, key⟩
  · rw [List.nodup_append]
    refine ⟨nodup_newL h1.1, nodup_newL h2.1, fun x hx y hy e => ?_⟩
    subst e
    exact (mem_newL.1 hy).2 (.inr (mem_newL.1 hx).1)
  · rw [← key, List.mem_append, mem_newL, mem_newL]
    unfold Also
    constructor
    · rintro (⟨h, h'⟩ | ⟨h, h'⟩)
      · exact ⟨.inl (.inr h), h'⟩
      · exact ⟨.inr h, fun h3 => h' (.inl h3)⟩
    · rintro ⟨(h | h) | h, h'⟩
      · exact absurd h h'
      · exact .inl ⟨h, h'⟩
      · rcases Classical.em (j ∈ l1) with h2 | h2
        · exact .inl ⟨h2, h'⟩
        · exact .inr ⟨h, fun h3 => h3.elim h' h2⟩
structure StarI (a : Ex) (s : List UInt8) (H : Nat → Prop) (l : List Nat) (K : Nat → Prop) (c all : List Nat) : Prop where
  ask : Ask s K c
  got : K = Also (EndsP (.star a) s H) all
  nd : all.Nodup
  new : ∀ i ∈ all, ¬ EndsP (.star a) s H i
  inn : ∀ i, i ≤ s.length → Also H l i → Also K c i
  out : ∀ i, Also K c i → EndsP (.star a) s (Also H l) i
  clo : ∀ j, EndsP a s K j → Also K c j
theorem star_begin {a : Ex} {s : List UInt8} {H : Nat → Prop} {l : List Nat} (h : Ask s H l) : StarI a s H l (EndsP (.star a) s H) (newL (EndsP (.star a) s H) l) [] where
  ask := ⟨nodup_newL h.1, fun i hi => ⟨(h.2 i (mem_newL.1 hi).1).1, (mem_newL.1 hi).2⟩⟩
  got := (also_nil _).symm
  nd := List.nodup_nil
  new := fun i hi => by cases hi
  inn := fun i hi h1 => by
    rw [also_newL]
    exact h1.elim (fun h2 => .inl (ends_from hi h2)) .inr
  out := fun i hi => by
    rw [also_newL] at hi
    rcases hi with h1 | h1
    · exact ends_mono (fun i hi => .inl hi) h1
    · exact ends_from (h.2 i h1).1 (.inr h1)
  clo := fun j hj => .inl (ends_more hj)
theorem star_round {a : Ex} {s : List UInt8} {H K : Nat → Prop} {l c all l' : List Nat} (h : StarI a s H l K c all) (ht : Tld a s K c l') : StarI a s H l (Also K c) (newL (Also K c) l') (all ++ c) where
  ask := ⟨nodup_newL ht.1, fun i hi => ⟨((ht.2 i).1 (mem_newL.1 hi).1).1.1, (mem_newL.1 hi).2⟩⟩
  got := by rw [h.got, also_also]
  nd := by
    rw [List.nodup_append]
    refine ⟨h.nd, h.ask.1, fun x hx y hy e => ?_⟩
    subst e
    exact (h.ask.2 x hy).2 (by rw [h.got]; exact .inr hx)
  new := fun i hi => by
    rcases List.mem_append.1 hi with h1 | h1
    · exact h.new i h1
    · exact fun h2 => (h.ask.2 i h1).2 (by rw [h.got]; exact .inl h2)
  inn := fun i hi h1 => .inl (h.inn i hi h1)
  out := fun i hi => by
    rw [also_newL] at hi
    rcases hi with h1 | h1
    · exact h.out i h1
    · exact ends_more (ends_mono h.out ((ht.2 i).1 h1).1)
  clo := fun j hj => by
    rw [also_newL]
    rw [← tld_also ht] at hj
    rcases hj with h1 | h1
    · exact .inl (h.clo j h1)
    · exact .inr h1
theorem star_end {a : Ex} {s : List UInt8} {H K : Nat → Prop} {l all : List Nat} (h : StarI a s H l K [] all) : Tld (.star a) s H l all ∧ K = EndsP (.star a) s (Also H l) := by
  have hK : K = EndsP (.star a) s (Also H l) := by
    funext j
    apply propext
    refine ⟨fun hj => h.out j (.inl hj), fun hj => ?_⟩
    refine ends_least (G := K) (fun i hi h1 => ?_) (fun i hi => ?_) hj
    · have := h.inn i hi h1; rw [also_nil] at this; exact this
    · have := h.clo i hi; rw [also_nil] at this; exact this
  refine ⟨⟨h.nd, fun j => ?_⟩, hK⟩
  rw [← hK, h.got]
  unfold Also
  constructor
  · exact fun hj => ⟨.inr hj, h.new j hj⟩
  · rintro ⟨h1 | h1, h2⟩
    · exact absurd h1 h2
    · exact h1
theorem places_len : ∀ {n : Nat} {l : List Nat}, l.Nodup → (∀ i ∈ l, i ≤ n) → l.length ≤ n + 1
  | 0, l, hn, hl => by
    match l, hn, hl with
    | [], _, _ => exact Nat.zero_le _
    | [_], _, _ => exact Nat.le_refl _
    | x :: y :: l, hn, hl =>
      have h1 := hl x (by simp)
      have h2 := hl y (by simp)
      simp at hn
      omega
  | n + 1, l, hn, hl => by
    have h1 := places_len (n := n) (l := l.erase (n + 1)) (hn.erase _) fun i hi => by
      have h2 := hl i (List.mem_of_mem_erase hi)
      have h3 : i ≠ n + 1 := fun e => by
        rw [e, hn.mem_erase_iff] at hi
        exact hi.1 rfl
      omega
    by_cases hm : n + 1 ∈ l
    · rw [List.length_erase_of_mem hm] at h1; omega
    · rw [List.erase_of_not_mem hm] at h1; omega
theorem star_len {a : Ex} {s : List UInt8} {H K : Nat → Prop} {l c all : List Nat} (h : StarI a s H l K c all) : (all ++ c).length ≤ s.length + 1 := by
  refine places_len ?_ fun i hi => ?_
  · rw [List.nodup_append]
    refine ⟨h.nd, h.ask.1, fun x hx y hy e => ?_⟩
    subst e
    exact (h.ask.2 x hy).2 (by rw [h.got]; exact .inr hx)
  · refine (h.out i ?_).1
    rcases List.mem_append.1 hi with h1 | h1
    · exact .inl (by rw [h.got]; exact .inr h1)
    · exact .inr h1
open Go.RowKit
structure Fm (X : Nat → Prop) (w w' : World) : Prop where
  os : w'.os = w.os
  tape : w'.tape = w.tape
  output : w'.output = w.output
  size : w.heap.size ≤ w'.heap.size
  block : ∀ k, k < w.heap.size → ¬ X k → w'.heap[k]? = w.heap[k]?
theorem Fm.refl (X : Nat → Prop) (w : World) : Fm X w w := ⟨rfl, rfl, rfl, Nat.le_refl _, fun _ _ _ => rfl⟩
theorem Fm.then {X Y : Nat → Prop} {w w1 w2 : World} (h : Fm X w w1) (k : Fm Y w1 w2) (hY : ∀ x, x < w.heap.size → Y x → X x) : Fm X w w2 :=
  ⟨k.os.trans h.os, k.tape.trans h.tape, k.output.trans h.output, Nat.le_trans h.size k.size, fun x hx hn => (k.block x (Nat.lt_of_lt_of_le hx h.size) fun hy => hn (hY x hx hy)).trans (h.block x hx hn)⟩
theorem Fm.trans {X : Nat → Prop} {w w1 w2 : World} (h : Fm X w w1) (k : Fm X w1 w2) : Fm X w w2 := h.then k fun _ _ h => h
theorem Fm.mono {X Y : Nat → Prop} {w w1 : World} (h : Fm X w w1) (hY : ∀ x, x < w.heap.size → X x → Y x) : Fm Y w w1 := ⟨h.os, h.tape, h.output, h.size, fun x hx hn => h.block x hx fun hy => hn (hY x hx hy)⟩
theorem Fm.below {X : Nat → Prop} {w w1 : World} (h : Below w.heap.size w w1) : Fm X w w1 := ⟨h.os, h.tape, h.output, h.size, fun x hx _ => h.block x hx⟩
theorem Fm.to {X : Nat → Prop} {B : Nat} {w w1 : World} (h : Fm X w w1) (hB : B ≤ w.heap.size) (hX : ∀ x, X x → B ≤ x) : Below B w w1 := ⟨h.os, h.tape, h.output, h.size, fun x hx => h.block x (by omega) fun hy => by have := hX x hy; omega⟩
theorem Fm.grown {X : Nat → Prop} {w w1 : World} {row : Option Nat} (h : w.grownBy w1 row) (hX : ∀ x, row = some x → X x) : Fm X w w1 := ⟨h.os, h.tape, h.output, h.size, fun x hx hn => h.block x hx fun e => hn (hX x e.symm)⟩
theorem Fm.set {X : Nat → Prop} {w : World} (a : Addr) (u : Value) (hX : X a.block) : Fm X w (w.setCell a u) := ⟨rfl, rfl, rfl, by simp [World.setCell], fun x _ hn => Below.heap_setCell _ _ _ _ fun e => hn (by rw [e]; exact hX)⟩
theorem Fm.alloc {X : Nat → Prop} (w : World) (o : Obj) : Fm X w (w.alloc o) := Fm.below ((Below.refl _ w).alloc (Nat.le_refl _) o)
theorem Fm.drew {X : Nat → Prop} (w : World) : Fm X w w.drew := Fm.below (Below.refl _ w).drew
def intsL (l : List Nat) : List Value := l.map fun i : Nat => Value.int .i64 (i : Int)
theorem intsL_len (l : List Nat) : (intsL l).length = l.length := by simp [intsL]
theorem intsL_app (l m : List Nat) : intsL (l ++ m) = intsL l ++ intsL m := by simp [intsL]
def OwnI (w : World) (v : Value) (l : List Nat) : Prop := w.ownsRow 0 3 1 v l.length (intsL l)
theorem OwnI.nil (w : World) : OwnI w (.slice none 0 0) [] := ⟨by simp [intsL], .inl ⟨rfl, rfl⟩⟩
theorem OwnI.lt {w : World} {v : Value} {l : List Nat} (h : OwnI w v l) {f : Nat} (hf : v.ownBlock = some f) : f < w.heap.size := by
  rcases h.2 with ⟨rfl, _⟩ | ⟨g, cap, cur, rfl, _, hg, _⟩
  · cases hf
  · injection hf with hf
    rw [← hf]
    exact (Array.getElem?_eq_some_iff.1 hg).1
theorem OwnI.go {w w' : World} {v : Value} {l : List Nat} (h : OwnI w v l) (hk : ∀ f, v.ownBlock = some f → w'.heap[f]? = w.heap[f]?) : OwnI w' v l := by
  refine ⟨h.1, ?_⟩
  rcases h.2 with h2 | ⟨g, cap, cur, rfl, hb, hg, r⟩
  · exact .inl h2
  · exact .inr ⟨g, cap, cur, rfl, hb, (hk g rfl).trans hg, r⟩
theorem OwnI.fm {X : Nat → Prop} {w w' : World} {v : Value} {l : List Nat} (h : OwnI w v l) (hf : Fm X w w') (hX : ∀ f, v.ownBlock = some f → ¬ X f) : OwnI w' v l := h.go fun f e => hf.block f (h.lt e) (hX f e)
theorem OwnI.below {w w' : World} {v : Value} {l : List Nat} (h : OwnI w v l) (hb : Below w.heap.size w w') : OwnI w' v l := h.go fun f e => hb.block f (h.lt e)
theorem OwnI.form {w : World} {v : Value} {l : List Nat} (h : OwnI w v l) : (v = .slice none 0 0 ∧ l = []) ∨ ∃ f cap cur, v = .slice (some ⟨f, 0, none⟩) l.length cap ∧ w.heap[f]? = some (.cells cur 3) ∧ l.length ≤ cap ∧ cap ≤ maxLen ∧ cur.size = cap ∧ cur.toList.take l.length = intsL l := by
  rcases h.2 with ⟨h1, h2⟩ | ⟨g, cap, cur, h1, _, h2, h3, h4, h5, h6⟩
  · exact .inl ⟨h1, List.length_eq_zero_iff.1 h2⟩
  · exact .inr ⟨g, cap, cur, h1, h2, h3, h4, by simpa using h5, by simpa using h6⟩
theorem OwnI.of {w : World} {f cap : Nat} {cur : Array Value} {l : List Nat} (h2 : w.heap[f]? = some (.cells cur 3)) (h3 : l.length ≤ cap) (h4 : cap ≤ maxLen) (h5 : cur.size = cap) (h6 : cur.toList.take l.length = intsL l) : OwnI w (.slice (some ⟨f, 0, none⟩) l.length cap) l :=
  ⟨by rw [intsL_len, Nat.mul_one], .inr ⟨f, cap, cur, rfl, Nat.zero_le _, h2, h3, h4, by simpa using h5, by simpa using h6⟩⟩
theorem OwnI.len_max {w : World} {v : Value} {l : List Nat} (h : OwnI w v l) : l.length ≤ maxLen := by
  rcases h.form with ⟨_, rfl⟩ | ⟨f, cap, cur, _, _, h3, h4, _⟩
  · exact Nat.zero_le _
  · exact Nat.le_trans h3 h4
theorem OwnI.cell {w : World} {f cap n : Nat} {l : List Nat} (h : OwnI w (.slice (some ⟨f, 0, none⟩) n cap) l) (j : Nat) (hj : j < l.length) : w.cell? ⟨f, j, none⟩ = some (.int .i64 (l[j] : Nat)) := by
  rcases h.form with ⟨h1, _⟩ | ⟨f', cap', cur, h1, h2, h3, h4, h5, h6⟩
  · cases h1
  · injection h1 with h1
    injection h1 with h1
    injection h1 with h1
    subst h1
    rw [Lib.cell_of_heap h2]
    have : (cur.toList.take l.length)[j]? = some (Value.int .i64 (l[j] : Nat)) := by rw [h6]; simp [intsL, hj]
    rw [List.getElem?_take, if_pos hj] at this
    simpa using this
def ToldV (w : World) (tv : Value) (T : Nat → Prop) : Prop := (tv = .slice none 0 0 ∧ ∀ i, ¬ T i) ∨
  ∃ t cap cur m, tv = .slice (some ⟨t, 0, none⟩) 1 cap ∧ w.heap[t]? = some (.cells cur 22) ∧ cur.size = cap ∧ cap ≤ maxLen ∧ 1 ≤ cap ∧ cur[0]? = some (.int .u64 (m : Nat)) ∧ m < 18446744073709551616 ∧ ∀ i, T i ↔ m.testBit i = true
theorem ToldV.lt {w : World} {tv : Value} {T : Nat → Prop} (h : ToldV w tv T) {t : Nat} (ht : tv.ownBlock = some t) : t < w.heap.size := by
  rcases h with ⟨rfl, _⟩ | ⟨g, cap, cur, m, rfl, hg, _⟩
  · cases ht
  · injection ht with ht
    rw [← ht]
    exact (Array.getElem?_eq_some_iff.1 hg).1
theorem ToldV.go {w w' : World} {tv : Value} {T : Nat → Prop} (h : ToldV w tv T) (hk : ∀ t, tv.ownBlock = some t → w'.heap[t]? = w.heap[t]?) : ToldV w' tv T := by
  rcases h with h | ⟨g, cap, cur, m, rfl, hg, r⟩
  · exact .inl h
  · exact .inr ⟨g, cap, cur, m, rfl, (hk g rfl).trans hg, r⟩
def Nd (w : World) (g k : Nat) (s : Ws) (kv tv : Value) : Prop := ∃ sl, w.heap[g]? = some (.cells #[.int .u8 k, .int .u64 s.a, .int .u64 s.b, .int .u64 s.c, .int .u64 s.d, sl, kv, tv] 74)
theorem Nd.go {w w' : World} {g k : Nat} {s : Ws} {kv tv : Value} (h : Nd w g k s kv tv) (hk : w'.heap[g]? = w.heap[g]?) : Nd w' g k s kv tv := by obtain ⟨sl, h⟩ := h; exact ⟨sl, hk.trans h⟩
def Ptrs (w : World) (k : Nat) (gs : List Nat) : Prop := ∃ cur, w.heap[k]? = some (.cells cur 54) ∧ ∀ j (h : j < gs.length), cur[j]? = some (.pointer (some ⟨gs[j], 0, none⟩))
theorem Ptrs.go {w w' : World} {k : Nat} {gs : List Nat} (h : Ptrs w k gs) (hk : w'.heap[k]? = w.heap[k]?) : Ptrs w' k gs := by obtain ⟨sl, h, r⟩ := h; exact ⟨sl, hk.trans h, r⟩
theorem Ptrs.cell {w : World} {k : Nat} {gs : List Nat} (h : Ptrs w k gs) (j : Nat) (hj : j < gs.length) : w.cell? ⟨k, j, none⟩ = some (.pointer (some ⟨gs[j], 0, none⟩)) := by
  obtain ⟨cur, h1, h2⟩ := h
  rw [Lib.cell_of_heap h1]
  exact h2 j hj
def PartAt (s : List UInt8) : Ex → (Nat → Prop) → World → Nat → (Nat → Prop) → Prop
  | .empty, _, w, g, F => F g ∧ (∀ x, F x → x < w.heap.size) ∧ ∃ kv tv, Nd w g 1 Ws.nil kv tv
  | .eps, _, w, g, F => F g ∧ (∀ x, F x → x < w.heap.size) ∧ ∃ kv tv, Nd w g 2 Ws.nil kv tv
  | .cls t, _, w, g, F => F g ∧ (∀ x, F x → x < w.heap.size) ∧ ∃ kv tv, Nd w g 3 t kv tv
  | .seq a b, H, w, g, F => F g ∧ (∀ x, F x → x < w.heap.size) ∧ ∃ tv k kc ga gb Fa Fb, Nd w g 4 Ws.nil (.slice (some ⟨k, 0, none⟩) 2 kc) tv ∧ Ptrs w k [ga, gb] ∧ F k ∧ k ≠ g ∧ PartAt s a H w ga Fa ∧ PartAt s b (EndsP a s H) w gb Fb ∧
      (∀ x, Fa x → F x ∧ x ≠ g ∧ x ≠ k ∧ ¬ Fb x) ∧ (∀ x, Fb x → F x ∧ x ≠ g ∧ x ≠ k)
  | .alt a b, H, w, g, F => F g ∧ (∀ x, F x → x < w.heap.size) ∧ ∃ tv k kc ga gb Fa Fb, Nd w g 5 Ws.nil (.slice (some ⟨k, 0, none⟩) 2 kc) tv ∧ Ptrs w k [ga, gb] ∧ F k ∧ k ≠ g ∧ PartAt s a H w ga Fa ∧ PartAt s b H w gb Fb ∧
      (∀ x, Fa x → F x ∧ x ≠ g ∧ x ≠ k ∧ ¬ Fb x) ∧ (∀ x, Fb x → F x ∧ x ≠ g ∧ x ≠ k) ∧ ToldV w tv (EndsP (.alt a b) s H) ∧ ∀ t, tv.ownBlock = some t → F t ∧ t ≠ g ∧ t ≠ k ∧ ¬ Fa t ∧ ¬ Fb t
  | .star a, H, w, g, F => F g ∧ (∀ x, F x → x < w.heap.size) ∧ ∃ tv k kc ga Fa, Nd w g 6 Ws.nil (.slice (some ⟨k, 0, none⟩) 1 kc) tv ∧ Ptrs w k [ga] ∧ F k ∧ k ≠ g ∧ PartAt s a (EndsP (.star a) s H) w ga Fa ∧
      (∀ x, Fa x → F x ∧ x ≠ g ∧ x ≠ k) ∧ ToldV w tv (EndsP (.star a) s H) ∧ ∀ t, tv.ownBlock = some t → F t ∧ t ≠ g ∧ t ≠ k ∧ ¬ Fa t
theorem PartAt.root {s : List UInt8} {e : Ex} {H : Nat → Prop} {w : World} {g : Nat} {F : Nat → Prop} (h : PartAt s e H w g F) : F g := by cases e <;> exact h.1
theorem PartAt.lt {s : List UInt8} {e : Ex} {H : Nat → Prop} {w : World} {g : Nat} {F : Nat → Prop} (h : PartAt s e H w g F) : ∀ x, F x → x < w.heap.size := by cases e <;> exact h.2.1
set_option linter.unusedVariables false in
theorem PartAt.go {s : List UInt8} : ∀ (e : Ex) {H : Nat → Prop} {w w' : World} {g : Nat} {F : Nat → Prop}, PartAt s e H w g F → w.heap.size ≤ w'.heap.size → (∀ x, F x → w'.heap[x]? = w.heap[x]?) → PartAt s e H w' g F
  | .empty, H, w, w', g, F, ⟨h1, h2, kv, tv, h3⟩, hs, hk => ⟨h1, fun x hx => Nat.lt_of_lt_of_le (h2 x hx) hs, kv, tv, h3.go (hk g h1)⟩
  | .eps, H, w, w', g, F, ⟨h1, h2, kv, tv, h3⟩, hs, hk => ⟨h1, fun x hx => Nat.lt_of_lt_of_le (h2 x hx) hs, kv, tv, h3.go (hk g h1)⟩
  | .cls t, H, w, w', g, F, ⟨h1, h2, kv, tv, h3⟩, hs, hk => ⟨h1, fun x hx => Nat.lt_of_lt_of_le (h2 x hx) hs, kv, tv, h3.go (hk g h1)⟩
  | .seq a b, H, w, w', g, F, ⟨h1, h2, tv, k, kc, ga, gb, Fa, Fb, h3, h4, h5, h6, h7, h8, h9, h10⟩, hs, hk =>
    ⟨h1, fun x hx => Nat.lt_of_lt_of_le (h2 x hx) hs, tv, k, kc, ga, gb, Fa, Fb, h3.go (hk g h1), h4.go (hk k h5), h5, h6, h7.go a hs (fun x hx => hk x (h9 x hx).1), h8.go b hs (fun x hx => hk x (h10 x hx).1), h9, h10⟩
  | .alt a b, H, w, w', g, F, ⟨h1, h2, tv, k, kc, ga, gb, Fa, Fb, h3, h4, h5, h6, h7, h8, h9, h10, h11, h12⟩, hs, hk =>
    ⟨h1, fun x hx => Nat.lt_of_lt_of_le (h2 x hx) hs, tv, k, kc, ga, gb, Fa, Fb, h3.go (hk g h1), h4.go (hk k h5), h5, h6, h7.go a hs (fun x hx => hk x (h9 x hx).1), h8.go b hs (fun x hx => hk x (h10 x hx).1), h9, h10, h11.go (fun t ht => hk t (h12 t ht).1), h12⟩
  | .star a, H, w, w', g, F, ⟨h1, h2, tv, k, kc, ga, Fa, h3, h4, h5, h6, h7, h9, h11, h12⟩, hs, hk =>
    ⟨h1, fun x hx => Nat.lt_of_lt_of_le (h2 x hx) hs, tv, k, kc, ga, Fa, h3.go (hk g h1), h4.go (hk k h5), h5, h6, h7.go a hs (fun x hx => hk x (h9 x hx).1), h9, h11.go (fun t ht => hk t (h12 t ht).1), h12⟩
theorem PartAt.fm {s : List UInt8} {e : Ex} {H : Nat → Prop} {w w' : World} {g : Nat} {F X : Nat → Prop} (h : PartAt s e H w g F) (hf : Fm X w w') (hX : ∀ x, F x → ¬ X x) : PartAt s e H w' g F := h.go e hf.size fun x hx => hf.block x (h.lt x hx) (hX x hx)
theorem PartAt.below {s : List UInt8} {e : Ex} {H : Nat → Prop} {w w' : World} {g : Nat} {F : Nat → Prop} (h : PartAt s e H w g F) (hf : Below w.heap.size w w') : PartAt s e H w' g F := h.go e hf.size fun x hx => hf.block x (h.lt x hx)
def EndsPostP (s : List UInt8) (e : Ex) (H : Nat → Prop) (l : List Nat) (v : Value) (g : Nat) (F : Nat → Prop) (w : World) (x : Ending) (w' : World) : Prop :=
  ∃ v' l' F', x = .returned v' ∧ OwnI w' v' l' ∧ (∀ f, v'.ownBlock = some f → ¬ F' f ∧ (v.ownBlock = some f ∨ w.heap.size ≤ f)) ∧ Tld e s H l l' ∧ PartAt s e (Also H l) w' g F' ∧ (∀ x, F' x → F x ∨ w.heap.size ≤ x) ∧ Fm (fun x => F x ∨ v.ownBlock = some x) w w'
def EndsK (s : ByteArray) (e : Ex) : Prop := ∀ (H : Nat → Prop) (l : List Nat) (w : World) (g : Nat) (F : Nat → Prop) (v : Value), PartAt s.data.toList e H w g F → OwnI w v l → (∀ f, v.ownBlock = some f → ¬ F f) → Ask s.data.toList H l →
  Calls Try.prog 28 #[.pointer (some ⟨g, 0, none⟩), .string s, v] w (EndsPostP s.data.toList e H l v g F w)
open Go.RowKit
set_option maxHeartbeats 1000000 in
theorem mhas_any (tv : Value) (T : Nat → Prop) (i : Nat) (w : World) (hi : i < 64) (h : ToldV w tv T) :
    Calls Try.prog 42 #[tv, .int .i64 i] w fun e w' => ∃ b, e = .returned (.bool b) ∧ (b = true ↔ T i) ∧ Below w.heap.size w w' := by
  have k1 : (i : Int) / 64 = 0 := by omega
  have k2 : (i : Int) % 64 = (i : Int) := by omega
  rcases h with ⟨rfl, hT⟩ | ⟨t, cap, cur, m, rfl, hg, hcs, hcm, hc1, hc0, hm, hT⟩
  · have HT := Lib.hid (hT i)
    clear hT
    go_enter Try.func42, Try.ntmps42
    go_wp2
    go_ret
    exact ⟨_, rfl, ⟨fun h => (by cases h), fun h => absurd h HT.out⟩, Below.refl _ _⟩
  · have HT := Lib.hid (hT i)
    have e0 := Lib.hid (and_one m i hm)
    have c0 : w.cell? ⟨t, 0, none⟩ = some (.int .u64 (m : Nat)) := by rw [Lib.cell_of_heap hg]; exact hc0
    clear hT hg hcs hcm hc1 hc0
    go_enter Try.func42, Try.ntmps42
    go_wp2
    go_ret
    refine ⟨_, rfl, ?_, Below.refl _ _⟩
    rw [HT.out]
    simp [e0.out]
def tldInv (w : World) (g o : Nat) (ty : TypeId) (cur : Array Value) (tv : Value) (T : Nat → Prop) (wr : World) : Prop :=
  ∃ tv', wr.heap[g]? = some (.cells (cur.setIfInBounds o tv') ty) ∧ ToldV wr tv' T ∧ (tv'.ownBlock = tv.ownBlock ∨ ∃ t, tv'.ownBlock = some t ∧ w.heap.size ≤ t) ∧ Fm (fun x => x = g ∨ tv.ownBlock = some x) w wr
theorem tldInv.drew {w w' : World} {g o : Nat} {ty : TypeId} {cur : Array Value} {tv : Value} {T : Nat → Prop} (h : tldInv w g o ty cur tv T w') : tldInv w g o ty cur tv T w'.drew := by
  obtain ⟨tv', h1, h2, h3, h4⟩ := h
  exact ⟨tv', h1, h2.go fun _ _ => rfl, h3, h4.trans (Fm.drew _)⟩
def isNil (g o : Nat) (w : World) : Nat := match w.cell? ⟨g, o, none⟩ with
  | some (.slice none _ _) => 1
  | _ => 0
theorem testBit_or (m i j : Nat) : (m ||| 2 ^ i).testBit j = true ↔ m.testBit j = true ∨ j = i := by
  rw [Nat.testBit_or, Nat.testBit_two_pow, Bool.or_eq_true, decide_eq_true_eq]
  exact ⟨fun h => h.imp id Eq.symm, fun h => h.imp id Eq.symm⟩
set_option maxRecDepth 100000 in
theorem infoU : (Try.prog.info? 22).map (fun i => (i.zero, i.size, i.bytes)) = some (some (.int .u64 0), 1, 8) := by kernel_rfl
theorem told_own {w : World} {v : Value} (h : w.ownsRow 0 22 1 v 1 [.int .u64 0]) (T : Nat → Prop) (hT : ∀ i, ¬ T i) : ToldV w v T := by
  rcases h.2 with ⟨_, h2⟩ | ⟨g, cap, cur, rfl, _, hg, h1, h2, h3, h4⟩
  · cases h2
  · refine .inr ⟨g, cap, cur, 0, rfl, hg, by simpa using h3, h2, h1, ?_, by decide, fun i => ⟨fun h => absurd h (hT i), fun h => by simp at h⟩⟩
    have : (cur.toList.take (1 * 1))[0]? = some (Value.int .u64 0) := by rw [h4]; rfl
    rw [List.getElem?_take, if_pos (by decide)] at this
    simpa using this
set_option maxRecDepth 100000 in
set_option maxHeartbeats 4000000 in
theorem mput_any (tv : Value) (T : Nat → Prop) (g o : Nat) (ty : TypeId) (cur : Array Value) (i : Nat) (w : World) (hi : i < 64) (hg : w.heap[g]? = some (.cells cur ty)) (ho : cur[o]? = some tv) (h : ToldV w tv T) (hgt : tv.ownBlock ≠ some g) :
    Calls Try.prog 41 #[.pointer (some ⟨g, o, none⟩), .int .i64 i] w fun e w' => e = .returned (.tuple #[]) ∧ tldInv w g o ty cur tv (Also T [i]) w' := by
  have k1 : (i : Int) / 64 = 0 := by omega
  have k2 : (i : Int) % 64 = (i : Int) := by omega
  have hos : o < cur.size := (Array.getElem?_eq_some_iff.1 ho).1
  have hgl : g < w.heap.size := (Array.getElem?_eq_some_iff.1 hg).1
  have hst : tldInv w g o ty cur tv T w := ⟨tv, by rw [hg]; congr 2; apply Array.ext_getElem?; intro j; rw [Array.getElem?_setIfInBounds]; split <;> simp_all, h, .inl rfl, Fm.refl _ _⟩
  have HST := Lib.hid hst
  have HGT := Lib.hid hgt
  clear h hst hg ho hgt
  go_enter Try.func41, Try.ntmps41
  go_wp2_with fail
  go_loopw [] (fun wr => tldInv w g o ty cur tv T wr) (fun wr => isNil g o wr)
  case atStart => exact HST.out
  case round =>
    obtain ⟨tv', h1, h2, h3, h4⟩ := hrel
    have c0 : wr.cell? ⟨g, o, none⟩ = some tv' := by rw [Lib.cell_of_heap h1]; simp [hos]
    have f0 : wr.frozen? ⟨g, o, none⟩ = false := Lib.frozen_of_heap h1 o
    have hgl' : g < wr.heap.size := Nat.lt_of_lt_of_le hgl h4.size
    rcases id h2 with ⟨rfl, hT⟩ | ⟨t, cap, tc, m, rfl, ht, hcs, hcm, hc1, hc0, hm, hT⟩
    · obtain ⟨i0, hi0, hz0, hz1, hz2⟩ := info_parts infoU
      have hz2' := Lib.hid hz2
      have H1 := Lib.hid h1
      have H3 := Lib.hid h3
      have H4 := Lib.hid h4
      have HT := Lib.hid hT
      clear h1 h2 h3 h4 hT hz2 HST
      go_wp2_with (at_builtin; refine wpList_append_at rfl _ _ 69 rfl 0 22 i0 (.int .u64 0) 1 8 Try.underlying69 hi0 hz0 hz1 hz2'.out rfl (by decide) (.slice none 0 0) 0 [] rfl ⟨rfl, .inl ⟨rfl, rfl⟩⟩ ⟨wr.heap.size, 0, none⟩ 1 1 [.int .u64 0] rfl rfl ?c1 ?c2 ?c3 ?c4 ?c5 (by decide) ?_)
      case c1 =>
        intro j u hu
        match j, hu with
        | 0, hu => simp at hu; subst hu; rw [Go.WideShapes.add_plain, Lib.cell_of_heap (blk_new wr _)]; rfl
      case c2 => intro u hu; simp at hu; subst hu; rfl
      case c3 => unfold maxLen; omega
      case c4 => omega
      case c5 => exact Nat.zero_le _
      intro v1 w1 g1 g2 g3
      have hF : Fm (fun x => x = g ∨ tv.ownBlock = some x) wr w1 := (Fm.alloc wr _).trans (Fm.grown g2 fun x hx => by cases hx)
      have e1 : w1.heap[g]? = wr.heap[g]? := (g2.block g (by simp; omega) (by simp [Value.ownBlock])).trans (Below.heap_alloc _ _ _ hgl')
      have hv1 : ∃ t, v1.ownBlock = some t ∧ wr.heap.size ≤ t := by
        rcases g1.2 with ⟨_, h⟩ | ⟨t, _, _, rfl, _⟩
        · cases h
        · rcases g3 with g3 | g3
          · cases g3
          · exact ⟨_, rfl, by injection g3 with g3; rw [g3]; simp⟩
      have hT1 : ToldV w1 v1 T := told_own (by simpa using g1) T HT.out
      have hg1 : w1.heap[g]? = some (.cells (cur.setIfInBounds o (.slice none 0 0)) ty) := e1.trans H1.out
      have c1 : w1.cell? ⟨g, o, none⟩ = some (.slice none 0 0) := by rw [Lib.cell_of_heap hg1]; simp [hos]
      have f1 : w1.frozen? ⟨g, o, none⟩ = false := Lib.frozen_of_heap hg1 o
      have hend : tldInv w g o ty cur tv T (w1.setCell ⟨g, o, none⟩ v1) := by
        obtain ⟨t, ht1, ht2⟩ := hv1
        refine ⟨v1, ?_, hT1.go fun x hx => Below.heap_setCell _ _ _ _ ?_, .inr ⟨t, ht1, Nat.le_trans H4.out.size ht2⟩, (H4.out.trans hF).trans (Fm.set _ _ (.inl rfl))⟩
        · simp [World.setCell, Array.getElem?_modify, hg1]
        · rw [ht1] at hx
          injection hx with hx
          show x ≠ g
          omega
      have hdec : isNil g o (w1.setCell ⟨g, o, none⟩ v1) < isNil g o wr := by
        have a1 : (w1.setCell ⟨g, o, none⟩ v1).cell? ⟨g, o, none⟩ = some v1 := by
          have hh : (w1.setCell ⟨g, o, none⟩ v1).heap[g]? = some (.cells (cur.setIfInBounds o v1) ty) := by simp [World.setCell, Array.getElem?_modify, hg1]
          rw [Lib.cell_of_heap hh]
          simp [hos]
        obtain ⟨t, ht1, _⟩ := hv1
        rcases g1.2 with ⟨_, h⟩ | ⟨t, _, _, rfl, _⟩
        · cases h
        · unfold isNil
          rw [a1, c0]
          exact Nat.zero_lt_one
      obtain ⟨t1, cap1, rfl⟩ : ∃ t1 cap1, v1 = .slice (some ⟨t1, 0, none⟩) 1 cap1 := by
        rcases g1.2 with ⟨_, h⟩ | ⟨t, cap, _, h, _⟩
        · cases h
        · exact ⟨t, cap, h⟩
      have HEND := Lib.hid hend
      have HDEC := Lib.hid hdec
      clear g1 g2 g3 hF e1 hv1 hT1 hend hdec hg1
      go_wp2
      exact ⟨HEND.out, HDEC.out⟩
    · have hht : t ≠ g := by
        intro e
        subst e
        rcases h3 with h | ⟨t', h, h'⟩
        · exact HGT.out h.symm
        · have h : t = t' := by simpa [Value.ownBlock] using h
          omega
      have d0 : wr.cell? ⟨t, 0, none⟩ = some (.int .u64 (m : Nat)) := by rw [Lib.cell_of_heap ht]; exact hc0
      have d1 : wr.frozen? ⟨t, 0, none⟩ = false := Lib.frozen_of_heap ht 0
      have htl : t < wr.heap.size := (Array.getElem?_eq_some_iff.1 ht).1
      have e0 := or_bit m i hm
      rw [show i % 64 = i from by omega] at e0
      have E0 := Lib.hid e0
      have hend : tldInv w g o ty cur tv (Also T [i]) (wr.setCell ⟨t, 0, none⟩ (.int .u64 ((m ||| 2 ^ i : Nat) : Int))) := by
        have hX : (fun x => x = g ∨ tv.ownBlock = some x) t ∨ w.heap.size ≤ t := by
          rcases h3 with h | ⟨t', h, h'⟩
          · exact .inl (.inr h.symm)
          · have h : t = t' := by simpa [Value.ownBlock] using h
            exact .inr (by omega)
        refine ⟨.slice (some ⟨t, 0, none⟩) 1 cap, (Below.heap_setCell _ _ _ _ (Ne.symm hht)).trans h1, .inr ⟨t, cap, tc.setIfInBounds 0 (.int .u64 ((m ||| 2 ^ i : Nat) : Int)), m ||| 2 ^ i, rfl, ?_, by simpa using hcs, hcm, hc1, ?_, ?_, fun j => ?_⟩, h3, ?_⟩
        · simp [World.setCell, Array.getElem?_modify, ht]
        · have : 0 < tc.size := by omega
          simp [this]
        · exact Nat.or_lt_two_pow (n := 64) hm (Nat.pow_lt_pow_right (by decide) hi)
        · rw [testBit_or]
          unfold Also
          rw [hT j]
          simp
        · rcases hX with hX | hX
          · exact h4.trans (Fm.set _ _ hX)
          · exact ⟨h4.os, h4.tape, h4.output, by simpa [World.setCell] using h4.size, fun x hx hn => (Below.heap_setCell _ _ _ _ (by show x ≠ t; omega)).trans (h4.block x hx hn)⟩
      have HEND := Lib.hid hend
      clear hend h1 h2 h3 h4 hT ht hcs hcm hc1 hc0 hht e0 HST HGT
      go_wp2_with fail
      go_region
      go_wp2
      rw [E0.out]
      exact ⟨rfl, .tuple #[], by simp [results, Try.results41, go_sem], rfl, HEND.out.drew⟩
open Go.RowKit
set_option maxRecDepth 100000 in
theorem infoI10 : (Try.prog.info? 3).map (fun i => (i.zero, i.size, i.bytes)) = some (some (.int .i64 0), 1, 8) := by kernel_rfl
theorem row_put (cur : Array Value) (n : Nat) (u : Value) (h : n < cur.size) : (cur.toList.take (n * 1) ++ [u] ++ cur.toList.drop (n * 1 + 1)).toArray = cur.setIfInBounds n u := by
  apply Array.ext'
  rw [Array.toList_setIfInBounds, Nat.mul_one, List.set_eq_take_append_cons_drop, if_pos (by simpa using h)]
  simp
theorem wpList_append_in {P : Program} {w : World} {ops : Array Oper} {rest : List Oper} {o : Oper} {a : Act} {Q : Exit → Act → World → Prop} (hgd : o.guard = none) (s x : Operand) (t : TypeId)
    (ho : o.op = .call { callee := .builtin .append, args := #[s, x], argTypes := #[t, t] }) (e : TypeId) (i : TypeInfo) (ht : P.underlying t = some (.slice e)) (hi : P.info? e = some i) (hsize : i.size = 1)
    (g n cap : Nat) (cur : Array Value) (hs : a.eval s = .slice (some ⟨g, 0, none⟩) n cap) (hg : w.heap[g]? = some (.cells cur e)) (b c : Nat) (u : Value) (hx : a.eval x = .slice (some ⟨b, 0, none⟩) 1 c) (hu : w.cell? ⟨b, 0, none⟩ = some u) (h1 : u.oneCell' = true)
    (hroom : n + 1 ≤ cap) (hcs : cur.size = cap) (h : wpList P ops Q rest (a.put o.dst (.slice (some ⟨g, 0, none⟩) (n + 1) cap)) (w.setRow g (cur.setIfInBounds n u))) : wpList P ops Q (o :: rest) a w := by
  refine wpList_plain hgd fun _ hK => ?_
  have hr := run_append_room (P := P) w t o.type e i ht hi g n cap cur hg ⟨b, 0, none⟩ 1 c [u] (by rw [hsize]; rfl) (fun j v hv => by
    match j, hv with
    | 0, hv => simp at hv; subst hv; rw [Go.WideShapes.add_plain]; exact hu) (fun v hv => by simp at hv; subst hv; exact h1) hroom (by rw [hsize, hcs]; simpa using hroom)
  rw [hsize] at hr
  rw [show ([u] : List Value).length = 1 from rfl, row_put cur n u (by omega)] at hr
  unfold Oper.wp execOp
  simp only [ho, resolve, invoke, builtin, Sem.run_bind, Sem.run_pure, Result.andThen_ok, List.map_toArray, List.map_cons, List.map_nil, hs, hx, hr]
  exact hK _ _ h
def InRow (w : World) (f cap : Nat) (l done : List Nat) (i : Nat) (fc : Array Value) : Prop :=
  done.length ≤ i ∧ w.heap[f]? = some (.cells fc 3) ∧ fc.size = cap ∧ fc.toList.take done.length = intsL done ∧ ∀ j, i ≤ j → ∀ h : j < l.length, fc[j]? = some (.int .i64 (l[j] : Nat))
theorem InRow.start {w : World} {f cap n : Nat} {l : List Nat} (h : OwnI w (.slice (some ⟨f, 0, none⟩) n cap) l) : l.length ≤ cap ∧ cap ≤ maxLen ∧ n = l.length ∧ ∃ fc, InRow w f cap l [] 0 fc := by
  rcases h.form with ⟨h1, _⟩ | ⟨f', cap', cur, h1, h2, h3, h4, h5, h6⟩
  · cases h1
  · simp at h1
    obtain ⟨rfl, rfl, rfl⟩ := h1
    refine ⟨h3, h4, rfl, cur, Nat.le_refl _, h2, h5, rfl, fun j _ hj => ?_⟩
    have : (cur.toList.take l.length)[j]? = some (Value.int .i64 (l[j] : Nat)) := by rw [h6]; simp [intsL, hj]
    rw [List.getElem?_take, if_pos hj] at this
    simpa using this
theorem InRow.go {w w' : World} {f cap i : Nat} {l done : List Nat} {fc : Array Value} (h : InRow w f cap l done i fc) (hk : w'.heap[f]? = w.heap[f]?) : InRow w' f cap l done i fc := ⟨h.1, hk.trans h.2.1, h.2.2⟩
theorem InRow.cell {w : World} {f cap i : Nat} {l done : List Nat} {fc : Array Value} (h : InRow w f cap l done i fc) (hi : i < l.length) : w.cell? ⟨f, i, none⟩ = some (.int .i64 (l[i] : Nat)) := by
  rw [Lib.cell_of_heap h.2.1]
  exact h.2.2.2.2 i (Nat.le_refl _) hi
theorem InRow.skip {w : World} {f cap i : Nat} {l done : List Nat} {fc : Array Value} (h : InRow w f cap l done i fc) : InRow w f cap l done (i + 1) fc := ⟨by have := h.1; omega, h.2.1, h.2.2.1, h.2.2.2.1, fun j hj => h.2.2.2.2 j (by omega)⟩
theorem InRow.put {w : World} {f cap i : Nat} {l done : List Nat} {fc : Array Value} (h : InRow w f cap l done i fc) (hi : i < l.length) (hl : l.length ≤ cap) (x : Nat) : InRow (w.setRow f (fc.setIfInBounds done.length (.int .i64 (x : Nat)))) f cap l (done ++ [x]) (i + 1) (fc.setIfInBounds done.length (.int .i64 (x : Nat))) := by
  obtain ⟨h1, h2, h3, h4, h5⟩ := h
  have hd : done.length < fc.size := by omega
  refine ⟨by rw [List.length_append]; simp; omega, setRow_heap w f fc _ _ _ h2, by simpa using h3, ?_, fun j hj hl' => ?_⟩
  · rw [List.length_append, intsL_app, ← h4, Array.toList_setIfInBounds, show [x].length = 1 from rfl, List.take_add_one]
    rw [List.take_set, List.getElem?_set]
    simp [hd, intsL]
    rw [List.set_eq_of_length_le (by simp; omega)]
  · rw [Array.getElem?_setIfInBounds_ne (by omega)]
    exact h5 j (by omega) hl'
theorem InRow.own {w : World} {f cap i : Nat} {l done : List Nat} {fc : Array Value} (h : InRow w f cap l done i fc) (hi : i ≤ l.length) (hl : l.length ≤ cap) (hm : cap ≤ maxLen) : OwnI w (.slice (some ⟨f, 0, none⟩) done.length cap) done := OwnI.of h.2.1 (by have := h.1; omega) hm h.2.2.1 h.2.2.2.1
theorem newL_snoc (T : Nat → Prop) (l : List Nat) (x : Nat) (h : ¬ T x) : newL T (l ++ [x]) = newL T l ++ [x] := by simp [newL, List.filter_append, h]
theorem newL_snoc' (T : Nat → Prop) (l : List Nat) (x : Nat) (h : T x) : newL T (l ++ [x]) = newL T l := by simp [newL, List.filter_append, h]
def addInv (w : World) (g o : Nat) (ty : TypeId) (cur : Array Value) (tv : Value) (T : Nat → Prop) (l : List Nat) (f cap : Nat) (y5 y12 : Value) (wr : World) : Prop :=
  ∃ i : Nat, i ≤ l.length ∧ y12 = .int .i64 i ∧ y5 = .slice (some ⟨f, 0, none⟩) (newL T (l.take i)).length cap ∧ (∃ fc, InRow wr f cap l (newL T (l.take i)) i fc) ∧
  ∃ tv', wr.heap[g]? = some (.cells (cur.setIfInBounds o tv') ty) ∧ ToldV wr tv' (Also T (l.take i)) ∧ (tv'.ownBlock = tv.ownBlock ∨ ∃ t, tv'.ownBlock = some t ∧ w.heap.size ≤ t) ∧ Fm (fun x => x = g ∨ x = f ∨ tv.ownBlock = some x) w wr
def AddPost (w : World) (g o : Nat) (ty : TypeId) (cur : Array Value) (tv : Value) (T : Nat → Prop) (l : List Nat) (v : Value) (e : Ending) (w' : World) : Prop :=
  ∃ v', e = .returned v' ∧ OwnI w' v' (newL T l) ∧ v'.ownBlock = v.ownBlock ∧
  ∃ tv', w'.heap[g]? = some (.cells (cur.setIfInBounds o tv') ty) ∧ ToldV w' tv' (Also T l) ∧ (tv'.ownBlock = tv.ownBlock ∨ ∃ t, tv'.ownBlock = some t ∧ w.heap.size ≤ t) ∧ Fm (fun x => x = g ∨ v.ownBlock = some x ∨ tv.ownBlock = some x) w w'
theorem set_same (cur : Array Value) (o : Nat) (tv : Value) (ho : cur[o]? = some tv) : cur.setIfInBounds o tv = cur := by
  apply Array.ext_getElem?
  intro j
  rw [Array.getElem?_setIfInBounds]
  split
  · next h => subst h; rw [if_pos (Array.getElem?_eq_some_iff.1 ho).1]; exact ho.symm
  · rfl
set_option maxRecDepth 100000 in
set_option maxHeartbeats 4000000 in
theorem madd_any (tv : Value) (T : Nat → Prop) (g o : Nat) (ty : TypeId) (cur : Array Value) (v : Value) (l : List Nat) (w : World) (hl : ∀ x ∈ l, x < 64) (hn : l.Nodup) (hg : w.heap[g]? = some (.cells cur ty)) (ho : cur[o]? = some tv) (h : ToldV w tv T) (hgt : tv.ownBlock ≠ some g)
    (hv : OwnI w v l) (hvg : v.ownBlock ≠ some g) (hvt : ∀ t, tv.ownBlock = some t → v.ownBlock ≠ some t) :
    Calls Try.prog 56 #[.pointer (some ⟨g, o, none⟩), v] w (AddPost w g o ty cur tv T l v) := by
  have hos : o < cur.size := (Array.getElem?_eq_some_iff.1 ho).1
  have hgl : g < w.heap.size := (Array.getElem?_eq_some_iff.1 hg).1
  rcases hv.form with ⟨rfl, rfl⟩ | ⟨f, cap, fc, rfl, hfr, hlc, hcm, -, -⟩
  · have hst : AddPost w g o ty cur tv T [] (.slice none 0 0) (.returned (.slice none 0 0)) w := ⟨_, rfl, OwnI.nil w, rfl, tv, by rw [set_same cur o tv ho]; exact hg, by rw [also_nil]; exact h, .inl rfl, Fm.refl _ _⟩
    have HST := Lib.hid hst
    clear hst h hgt hvt hvg hv hg ho hl hn
    go_enter Try.func56, Try.ntmps56
    go_wp2_with fail
    go_loopw [5, 12] (fun y5 y12 wr => y5 = .slice none 0 0 ∧ y12 = .int .i64 0 ∧ wr = w) (fun _ _ _ => 0)
    case atStart => exact ⟨rfl, rfl, rfl⟩
    case round =>
      obtain ⟨rfl, rfl, rfl⟩ := hrel
      go_wp2
      go_ret
      exact HST.out
  · obtain ⟨-, -, -, fc0, hR0⟩ := InRow.start hv
    have hfg : f ≠ g := fun e => hvg (by rw [e]; rfl)
    have hst : addInv w g o ty cur tv T l f cap (.slice (some ⟨f, 0, none⟩) 0 cap) (.int .i64 0) w := ⟨0, Nat.zero_le _, rfl, rfl, ⟨fc0, hR0⟩, tv, by rw [set_same cur o tv ho]; exact hg, by rw [List.take_zero, also_nil]; exact h, .inl rfl, Fm.refl _ _⟩
    have HST := Lib.hid hst
    have HL := Lib.hid hl
    have HN := Lib.hid hn
    have HVT := Lib.hid fun (t : Nat) (ht : tv.ownBlock = some t) => show t ≠ f from fun e => hvt t ht (by rw [e]; rfl)
    have HGT := Lib.hid hgt
    have HFL := Lib.hid (hv.lt (f := f) rfl)
    have HLC := Lib.hid hlc
    have HCM := Lib.hid hcm
    clear hst h hgt hvt hvg hv hg ho hl hn hR0 fc0 hfr fc hlc hcm
    go_enter Try.func56, Try.ntmps56
    go_wp2_with fail
    go_loopw [5, 12] (fun y5 y12 wr => addInv w g o ty cur tv T l f cap y5 y12 wr) (fun _ y12 _ => l.length - (intOf y12).toNat)
    case atStart => exact HST.out
    case round =>
      clear HST
      obtain ⟨i, hi, rfl, rfl, ⟨fc, hR⟩, tv', h1, h2, h3, h4⟩ := hrel
      have H1 := Lib.hid h1
      have H2 := Lib.hid h2
      have H3 := Lib.hid h3
      have H4 := Lib.hid h4
      have HR := Lib.hid hR
      by_cases hlt : i < l.length
      · have q1 : (i : Int) < (l.length : Int) := by omega
        have c1 := hR.cell hlt
        have c0 : wr.cell? ⟨g, o, none⟩ = some tv' := by rw [Lib.cell_of_heap h1]; simp [hos]
        have hx64 := HL.out l[i] (List.getElem_mem hlt)
        obtain ⟨x, hx⟩ : ∃ x, x = l[i] := ⟨_, rfl⟩
        rw [← hx] at c1 hx64
        have KH := Lib.hid (mhas_any tv' _ x wr hx64 h2)
        have HX := Lib.hid hx
        have hw64 : wrap64 ((i : Int) + 1) = (i : Int) + 1 := by have := HLC.out; have := HCM.out; unfold maxLen at this; unfold wrap64; omega
        have HW := Lib.hid hw64
        clear hw64
        have htk : l.take (i + 1) = l.take i ++ [x] := by rw [hx, List.take_succ_eq_append_getElem hlt]
        have HTK := Lib.hid htk
        have hxn : ¬ x ∈ l.take i := by
          intro hm
          have := HN.out.sublist (List.take_sublist (i + 1) l)
          rw [htk, List.nodup_append] at this
          exact this.2.2 x hm x (by simp) rfl
        have HXN := Lib.hid hxn
        obtain ⟨tp, tn, tc, rfl⟩ : ∃ a n c, tv' = .slice a n c := by
          rcases h2 with ⟨rfl, _⟩ | ⟨t, cap, _, m, rfl, _⟩
          · exact ⟨_, _, _, rfl⟩
          · exact ⟨_, _, _, rfl⟩
        clear h1 h2 h3 h4 hR hx htk hxn
        go_wp2_with fail
        refine KH.out.mono ?_
        rintro e w1 ⟨b, rfl, hb, hbel⟩
        cases b with
        | true =>
          have hT : T x := ((hb.1 rfl).resolve_right HXN.out)
          have e1 : newL T (l.take (i + 1)) = newL T (l.take i) := by rw [HTK.out]; exact newL_snoc' T _ x hT
          have e2 : Also T (l.take (i + 1)) = Also T (l.take i) := by
            rw [HTK.out]
            funext j
            apply propext
            unfold Also
            rw [List.mem_append]
            constructor
            · rintro (h | h | h)
              · exact .inl h
              · exact .inr h
              · simp at h; exact .inl (by rw [h]; exact hT)
            · exact fun h => h.imp id .inl
          have hend : addInv w g o ty cur tv T l f cap (.slice (some ⟨f, 0, none⟩) (newL T (l.take i)).length cap) (.int .i64 ((i : Int) + 1)) w1 := by
            refine ⟨i + 1, hlt, by simp, by rw [e1], ⟨fc, by rw [e1]; exact (HR.out.go (hbel.block f (Nat.lt_of_lt_of_le HFL.out H4.out.size))).skip⟩, _, (hbel.block g (Nat.lt_of_lt_of_le hgl H4.out.size)).trans H1.out, by rw [e2]; exact H2.out.go fun t ht => hbel.block t (H2.out.lt ht), H3.out, H4.out.trans (Fm.below hbel)⟩
          have HEND := Lib.hid hend
          clear hb hbel hT e1 e2 hend
          go_wp2
          rw [HW.out]
          exact ⟨HEND.out, by simp [intOf]; omega⟩
        | false =>
          have hT : ¬ (Also T (l.take i)) x := fun h => by have := hb.2 h; cases this
          have hT0 : ¬ T x := fun h => hT (.inl h)
          have e1 : newL T (l.take (i + 1)) = newL T (l.take i) ++ [x] := by rw [HTK.out]; exact newL_snoc T _ x hT0
          have e2 : Also T (l.take (i + 1)) = Also (Also T (l.take i)) [x] := by rw [HTK.out, also_also]
          obtain ⟨tv', htv⟩ : ∃ t, t = Value.slice tp tn tc := ⟨_, rfl⟩
          have hg1 : w1.heap[g]? = some (.cells (cur.setIfInBounds o tv') ty) := by rw [htv]; exact (hbel.block g (Nat.lt_of_lt_of_le hgl H4.out.size)).trans H1.out
          have hgt' : tv'.ownBlock ≠ some g := by
            rw [htv]
            rcases H3.out with h | ⟨t, h, h'⟩
            · rw [h]; exact HGT.out
            · rw [h]; intro e; injection e with e; omega
          have ht1 : ToldV w1 tv' (Also T (l.take i)) := by rw [htv]; exact H2.out.go fun t ht => hbel.block t (H2.out.lt ht)
          have KP := Lib.hid (mput_any tv' _ g o ty (cur.setIfInBounds o tv') x w1 hx64 hg1 (by simp [hos]) ht1 hgt')
          have hF1 : Fm (fun x => x = g ∨ x = f ∨ tv.ownBlock = some x) w w1 := H4.out.trans (Fm.below hbel)
          have hR1 := HR.out.go (hbel.block f (Nat.lt_of_lt_of_le HFL.out H4.out.size))
          have hbk : tv'.ownBlock = tv.ownBlock ∨ ∃ t, tv'.ownBlock = some t ∧ w.heap.size ≤ t := by rw [htv]; exact H3.out
          have hft : tv'.ownBlock ≠ some f := by
            intro e
            rcases hbk with h | ⟨t, h, h'⟩
            · rw [h] at e; exact HVT.out f e rfl
            · rw [h] at e; injection e with e; have := HFL.out; omega
          have HE1 := Lib.hid e1
          have HE2 := Lib.hid e2
          have HF1 := Lib.hid hF1
          have HR1 := Lib.hid hR1
          have HBK := Lib.hid hbk
          have HFT := Lib.hid hft
          clear hb hbel hT hT0 e1 e2 hg1 hgt' ht1 hF1 hR1 hbk hft c0 c1 HR H1 H2 H3 H4
          clear htv
          go_wp2_with fail
          refine KP.out.mono ?_
          rintro e w2 ⟨rfl, tv2, a1, a2, a3, a4⟩
          have hR2 : InRow w2 f cap l (newL T (l.take i)) i fc := HR1.out.go (a4.block f (Nat.lt_of_lt_of_le HFL.out HF1.out.size) fun h => by
            rcases h with h | h
            · exact hfg h
            · exact HFT.out h)
          have hF2 : Fm (fun x => x = g ∨ x = f ∨ tv.ownBlock = some x) w w2 := HF1.out.then a4 fun y hy h => by
            rcases h with h | h
            · exact .inl h
            · rcases HBK.out with h2 | ⟨t, h2, h3⟩
              · exact .inr (.inr (by rw [← h2]; exact h))
              · rw [h2] at h; injection h with h; omega
          have hbk2 : tv2.ownBlock = tv.ownBlock ∨ ∃ t, tv2.ownBlock = some t ∧ w.heap.size ≤ t := by
            rcases a3 with h | ⟨t, h, h'⟩
            · rw [h]; exact HBK.out
            · exact .inr ⟨t, h, Nat.le_trans HF1.out.size h'⟩
          have hf2 : tv2.ownBlock ≠ some f := by
            intro e
            rcases a3 with h | ⟨t, h, h'⟩
            · rw [h] at e; exact HFT.out e
            · rw [h] at e; injection e with e; have := HFL.out; have := HF1.out.size; omega
          obtain ⟨i0, hi0, hz0, hz1, hz2⟩ := info_parts infoI10
          have hfl2 : f < w2.heap.size := Nat.lt_of_lt_of_le HFL.out hF2.size
          have hgl2 : g < w2.heap.size := Nat.lt_of_lt_of_le hgl hF2.size
          have hR3 : InRow (w2.alloc (.cells #[.int .i64 (x : Nat)] 3)) f cap l (newL T (l.take i)) i fc := hR2.go (Below.heap_alloc _ _ _ hfl2)
          have hroom : (newL T (l.take i)).length + 1 ≤ cap := by have := hR2.1; have := HLC.out; omega
          have hend : addInv w g o ty cur tv T l f cap (.slice (some ⟨f, 0, none⟩) ((newL T (l.take i)).length + 1) cap) (.int .i64 ((i : Int) + 1)) ((w2.alloc (.cells #[.int .i64 (x : Nat)] 3)).setRow f (fc.setIfInBounds (newL T (l.take i)).length (.int .i64 (x : Nat)))) := by
            have hso : ∀ b, b < w2.heap.size → b ≠ f → ((w2.alloc (.cells #[.int .i64 (x : Nat)] 3)).setRow f (fc.setIfInBounds (newL T (l.take i)).length (.int .i64 (x : Nat)))).heap[b]? = w2.heap[b]? := fun b hb hbf => (setRow_other _ f b _ hbf).trans (Below.heap_alloc _ _ _ hb)
            refine ⟨i + 1, hlt, by simp, by rw [HE1.out]; simp, ⟨_, by rw [HE1.out]; exact hR3.put hlt HLC.out x⟩, tv2, ?_, ?_, hbk2, hF2.trans ⟨rfl, rfl, rfl, by simp [World.setRow], fun b hb hn => hso b hb fun e => hn (.inr (.inl e))⟩⟩
            · rw [hso g hgl2 (Ne.symm hfg), a1]
              congr 2
              apply Array.ext_getElem?
              intro j
              simp only [Array.getElem?_setIfInBounds, Array.size_setIfInBounds]
              split <;> rfl
            · rw [HE2.out]
              exact a2.go fun t ht => hso t (a2.lt ht) fun e => hf2 (by rw [ht, e])
          have HEND := Lib.hid hend
          have HR3 := Lib.hid hR3
          clear a1 a2 a3 a4 hR2 hF2 hbk2 hf2 hend hz0 hz2 hR3
          go_wp2_with (at_builtin; refine wpList_append_in rfl _ _ 33 rfl 3 i0 Try.underlying33 hi0 hz1 f _ cap fc rfl HR3.out.2.1 w2.heap.size 1 (.int .i64 (x : Nat)) rfl ?c1 rfl hroom HR3.out.2.2.1 ?_)
          case c1 => rw [Lib.cell_of_heap (blk_new w2 _)]; rfl
          go_wp2
          rw [HW.out]
          exact ⟨HEND.out, by simp [intOf]; omega⟩
      · have q1 : ¬ (i : Int) < (l.length : Int) := by omega
        obtain rfl : i = l.length := by omega
        have hend : AddPost w g o ty cur tv T l (.slice (some ⟨f, 0, none⟩) l.length cap) (.returned (.slice (some ⟨f, 0, none⟩) (newL T (l.take l.length)).length cap)) wr := by
          have e1 : l.take l.length = l := List.take_length
          refine ⟨_, rfl, ?_, rfl, tv', h1, by rw [e1] at h2; exact h2, h3, h4.mono fun x _ hx => ?_⟩
          · have := hR.own (Nat.le_refl _) HLC.out HCM.out
            rw [e1] at this ⊢
            exact this
          · rcases hx with h | h | h
            · exact .inl h
            · exact .inr (.inl (by rw [h]; rfl))
            · exact .inr (.inr h)
        rw [List.take_length] at hend
        have HEND := Lib.hid hend
        clear h1 h2 h3 h4 hR hend
        go_wp2
        go_ret
        exact HEND.out
open Go.RowKit
theorem clsL_no {t : Ws} {s : List UInt8} (l : List Nat) (x : Nat) (h : ¬ clsP t s x = true) : clsL t s (l ++ [x]) = clsL t s l := by simp [clsL, List.filter_append, h]
theorem clsL_yes {t : Ws} {s : List UInt8} (l : List Nat) (x : Nat) (h : clsP t s x = true) : clsL t s (l ++ [x]) = clsL t s l ++ [x + 1] := by simp [clsL, List.filter_append, h]
def clsInvM (t : Ws) (s : ByteArray) (l : List Nat) (f cap : Nat) (w : World) (y7 y14 : Value) (wr : World) : Prop :=
  ∃ i : Nat, i ≤ l.length ∧ y14 = .int .i64 i ∧ y7 = .slice (some ⟨f, 0, none⟩) (clsL t s.data.toList (l.take i)).length cap ∧ (∃ fc, InRow wr f cap l (clsL t s.data.toList (l.take i)) i fc) ∧ Fm (fun x => x = f) w wr
set_option maxRecDepth 100000 in
set_option maxHeartbeats 4000000 in
theorem mclass_any (t : Ws) (s : ByteArray) (ht : t.Ok) (hs : s.size ≤ 60) (H : Nat → Prop) (l : List Nat) (w : World) (g : Nat) (F : Nat → Prop) (v : Value) (hp : PartAt s.data.toList (.cls t) H w g F) (hv : OwnI w v l) (hvF : ∀ f, v.ownBlock = some f → ¬ F f) (ha : Ask s.data.toList H l) (hne : l ≠ []) :
    Calls Try.prog 43 #[.pointer (some ⟨g, 0, none⟩), .string s, v] w (EndsPostP s.data.toList (.cls t) H l v g F w) := by
  rcases hv.form with ⟨_, h0⟩ | ⟨f, cap, fc, rfl, hfr, hlc, hcm, -, -⟩
  · exact absurd h0 hne
  · have hfF : ¬ F f := hvF f rfl
    have hgF := hp.root
    have hfg : f ≠ g := fun e => hfF (by rw [e]; exact hgF)
    obtain ⟨-, -, -, fc0, hR0⟩ := InRow.start hv
    have hfl : f < w.heap.size := hv.lt (f := f) rfl
    have hst : clsInvM t s l f cap w (.slice (some ⟨f, 0, none⟩) 0 cap) (.int .i64 0) w := ⟨0, Nat.zero_le _, rfl, rfl, ⟨fc0, hR0⟩, Fm.refl _ _⟩
    have HST := Lib.hid hst
    have HPP := Lib.hid hp
    have HAA := Lib.hid ha
    have HVF := Lib.hid hvF
    obtain ⟨-, -, kv, tv, sl, hg⟩ := hp
    have hgl : g < w.heap.size := (Array.getElem?_eq_some_iff.1 hg).1
    have HG := Lib.hid hg
    have HLC := Lib.hid hlc
    have HCM := Lib.hid hcm
    have HAL := Lib.hid fun (x : Nat) (hx : x ∈ l) => show x ≤ s.size from by have := (ha.2 x hx).1; rw [Array.length_toList] at this; exact this
    have HT := Lib.hid ht
    obtain ⟨sa, sb, sc, sd⟩ := t
    simp only at HG
    clear hst hvF hv ha hR0 fc0 hfr fc hlc hcm hne hg ht
    go_enter Try.func43, Try.ntmps43
    go_wp2_with fail
    go_loopw [7, 14] (fun y7 y14 wr => clsInvM ⟨sa, sb, sc, sd⟩ s l f cap w y7 y14 wr) (fun _ y14 _ => l.length - (intOf y14).toNat)
    case atStart => exact HST.out
    case round =>
      clear HST
      obtain ⟨i, hi, rfl, rfl, ⟨fc, hR⟩, h4⟩ := hrel
      have H4 := Lib.hid h4
      have HR := Lib.hid hR
      by_cases hlt : i < l.length
      · have q1 : (i : Int) < (l.length : Int) := by omega
        have c1 := hR.cell hlt
        have hxs := HAL.out l[i] (List.getElem_mem hlt)
        obtain ⟨x, hx⟩ : ∃ x, x = l[i] := ⟨_, rfl⟩
        rw [← hx] at c1 hxs
        have hw64 : wrap64 ((i : Int) + 1) = (i : Int) + 1 := by have := HLC.out; have := HCM.out; unfold maxLen at this; unfold wrap64; omega
        have HW := Lib.hid hw64
        have htk : l.take (i + 1) = l.take i ++ [x] := by rw [hx, List.take_succ_eq_append_getElem hlt]
        have HTK := Lib.hid htk
        obtain ⟨t, htt⟩ : ∃ t : Ws, t = ⟨sa, sb, sc, sd⟩ := ⟨_, rfl⟩
        have CX := Lib.hid fun W (hb : Below wr.heap.size wr W) => show W.cell? ⟨g, 1, none⟩ = some (.int .u64 sa) ∧ W.cell? ⟨g, 2, none⟩ = some (.int .u64 sb) ∧ W.cell? ⟨g, 3, none⟩ = some (.int .u64 sc) ∧ W.cell? ⟨g, 4, none⟩ = some (.int .u64 sd) from by
          have hh := (hb.block g (Nat.lt_of_lt_of_le hgl H4.out.size)).trans ((H4.out.block g hgl (Ne.symm hfg)).trans HG.out)
          refine ⟨?_, ?_, ?_, ?_⟩ <;> (rw [Lib.cell_of_heap hh]; rfl)
        rw [← htt] at HT HR ⊢
        clear hx hR h4 hw64 htk
        by_cases hxl : x < s.size
        · have hlt2 : (x : Int) < (s.size : Int) := by omega
          have HLT := Lib.hid hlt2
          obtain ⟨q, hq⟩ : ∃ q, q = t.has (s[x]'hxl).toNat := ⟨_, rfl⟩
          have KH := Lib.hid fun W => has_any t (s[x]'hxl).toNat W HT.out (s[x]'hxl).toNat_lt
          rw [← hq, htt] at KH
          have HQ := Lib.hid hq
          have hcl : clsP t s.data.toList x = q := by
            rw [Bool.eq_iff_iff, clsP_iff, hq]
            exact ⟨fun ⟨_, h⟩ => h, fun h => ⟨by rw [Array.length_toList]; exact hxl, h⟩⟩
          have HCL := Lib.hid hcl
          clear hq hcl htt hlt2
          go_wp2_with fail
          refine wp_region_order (fun j => ([SP.eq (.int .i64 (x : Nat)), SP.eq (.string s), SP.eq (.int .i64 s.size), SP.eq (.bool true), SP.eq (.bool true), SP.eq (.pointer (some ⟨g, 0, none⟩)), SP.eq (.pointer (some ⟨g, 0, none⟩)), SP.eq (.pointer (some ⟨g, 0, none⟩)), SP.eq (.pointer (some ⟨g, 1, none⟩)), SP.eq (.agg #[.int .u64 sa, .int .u64 sb, .int .u64 sc, .int .u64 sd]), SP.eq (.string s), SP.eq (.int .i64 (x : Nat)), SP.eq (.int .u8 (s[x]'hxl).toNat), SP.eq (.bool q), SP.eq (.bool q)] : List SP).getD j SP.free) (by kernel_rfl) (by kernel_rfl) ⟨?_, ?_, ?_, ?_, ?_, ?_, ?_, ?_, ?_, ?_, ?_, ?_, ?_, ?_, ?_, trivial⟩ ?_
          · intro a x1 K out get hb hK
            rw [if_pos (wanted_none rfl)]
            have o9 : a.tmps[9]? = some (.int .i64 (x : Nat)) := out 9 (by kernel_rfl)
            clear out get
            go_simp
            exact hK _ _ rfl (Below.refl _ _)
          · intro a x1 K out get hb hK
            rw [if_pos (wanted_none rfl)]
            have o1 : a.tmps[1]? = some (.string s) := out 1 (by kernel_rfl)
            clear out get
            go_simp
            exact hK _ _ rfl (Below.refl _ _)
          · intro a x1 K out get hb hK
            rw [if_pos (wanted_none rfl)]
            obtain ⟨y19, hy19, rfl⟩ := get 1 _ _ rfl rfl (by kernel_rfl)
            clear out get
            go_simp
            exact hK _ _ rfl (Below.refl _ _)
          · intro a x1 K out get hb hK
            rw [if_pos (wanted_none rfl)]
            obtain ⟨y18, hy18, rfl⟩ := get 0 _ _ rfl rfl (by kernel_rfl)
            obtain ⟨y20, hy20, rfl⟩ := get 2 _ _ rfl rfl (by kernel_rfl)
            clear out get
            have hlt := HLT.out
            go_simp
            exact hK _ _ rfl (Below.refl _ _)
          · intro a x1 K out get hb hK
            rw [if_pos (wanted_none rfl)]
            obtain ⟨y21, hy21, rfl⟩ := get 3 _ _ rfl rfl (by kernel_rfl)
            clear out get
            go_simp
            exact hK _ _ rfl (Below.refl _ _)
          · intro a x1 K out get hb hK
            obtain ⟨yg, hyg, rfl⟩ := get 4 _ _ rfl rfl (by kernel_rfl)
            rw [if_pos (by rw [wanted_bool rfl rfl rfl hyg]; rfl)]
            clear hyg
            have o0 : a.tmps[0]? = some (.pointer (some ⟨g, 0, none⟩)) := out 0 (by kernel_rfl)
            clear out get
            go_simp
            exact hK _ _ rfl (Below.refl _ _)
          · intro a x1 K out get hb hK
            obtain ⟨yg, hyg, rfl⟩ := get 4 _ _ rfl rfl (by kernel_rfl)
            rw [if_pos (by rw [wanted_bool rfl rfl rfl hyg]; rfl)]
            clear hyg
            obtain ⟨y23, hy23, rfl⟩ := get 5 _ _ rfl rfl (by kernel_rfl)
            clear out get
            go_simp
            exact hK _ _ rfl (Below.refl _ _)
          · intro a x1 K out get hb hK
            obtain ⟨yg, hyg, rfl⟩ := get 4 _ _ rfl rfl (by kernel_rfl)
            rw [if_pos (by rw [wanted_bool rfl rfl rfl hyg]; rfl)]
            clear hyg
            obtain ⟨y24, hy24, rfl⟩ := get 6 _ _ rfl rfl (by kernel_rfl)
            clear out get
            go_simp
            exact hK _ _ rfl (Below.refl _ _)
          · intro a x1 K out get hb hK
            obtain ⟨yg, hyg, rfl⟩ := get 4 _ _ rfl rfl (by kernel_rfl)
            rw [if_pos (by rw [wanted_bool rfl rfl rfl hyg]; rfl)]
            clear hyg
            obtain ⟨y25, hy25, rfl⟩ := get 7 _ _ rfl rfl (by kernel_rfl)
            clear out get
            go_simp
            exact hK _ _ rfl (Below.refl _ _)
          · intro a x1 K out get hb hK
            obtain ⟨yg, hyg, rfl⟩ := get 4 _ _ rfl rfl (by kernel_rfl)
            rw [if_pos (by rw [wanted_bool rfl rfl rfl hyg]; rfl)]
            clear hyg
            obtain ⟨y26, hy26, rfl⟩ := get 8 _ _ rfl rfl (by kernel_rfl)
            clear out get
            obtain ⟨c1, c2, c3, c4⟩ := CX.out x1 hb
            go_simp
            exact hK _ _ rfl (Below.refl _ _)
          · intro a x1 K out get hb hK
            obtain ⟨yg, hyg, rfl⟩ := get 4 _ _ rfl rfl (by kernel_rfl)
            rw [if_pos (by rw [wanted_bool rfl rfl rfl hyg]; rfl)]
            clear hyg
            have o1 : a.tmps[1]? = some (.string s) := out 1 (by kernel_rfl)
            clear out get
            go_simp
            exact hK _ _ rfl (Below.refl _ _)
          · intro a x1 K out get hb hK
            obtain ⟨yg, hyg, rfl⟩ := get 4 _ _ rfl rfl (by kernel_rfl)
            rw [if_pos (by rw [wanted_bool rfl rfl rfl hyg]; rfl)]
            clear hyg
            have o9 : a.tmps[9]? = some (.int .i64 (x : Nat)) := out 9 (by kernel_rfl)
            clear out get
            go_simp
            exact hK _ _ rfl (Below.refl _ _)
          · intro a x1 K out get hb hK
            obtain ⟨yg, hyg, rfl⟩ := get 4 _ _ rfl rfl (by kernel_rfl)
            rw [if_pos (by rw [wanted_bool rfl rfl rfl hyg]; rfl)]
            clear hyg
            obtain ⟨y28, hy28, rfl⟩ := get 10 _ _ rfl rfl (by kernel_rfl)
            obtain ⟨y29, hy29, rfl⟩ := get 11 _ _ rfl rfl (by kernel_rfl)
            clear out get
            have hix : (0 : Int) ≤ (x : Int) ∧ (x : Int) < (s.size : Int) := ⟨by omega, by omega⟩
            go_simp
            exact hK _ _ rfl (Below.refl _ _)
          · intro a x1 K out get hb hK
            obtain ⟨yg, hyg, rfl⟩ := get 4 _ _ rfl rfl (by kernel_rfl)
            rw [if_pos (by rw [wanted_bool rfl rfl rfl hyg]; rfl)]
            clear hyg
            obtain ⟨y27, hy27, rfl⟩ := get 9 _ _ rfl rfl (by kernel_rfl)
            obtain ⟨y30, hy30, rfl⟩ := get 12 _ _ rfl rfl (by kernel_rfl)
            clear out get
            go_simp
            refine (KH.out x1).mono ?_
            rintro e w2 ⟨rfl, hb2⟩
            exact hK _ _ rfl hb2
          · intro a x1 K out get hb hK
            rw [if_pos (wanted_none rfl)]
            obtain ⟨y22, hy22, rfl⟩ := get 4 _ _ rfl rfl (by kernel_rfl)
            obtain ⟨y31, hy31, rfl⟩ := get 13 _ _ rfl rfl (by kernel_rfl)
            clear out get
            go_simp
            exact hK _ _ rfl (Below.refl _ _)
          refine ao_fin (isD := fun s => decide (18 ≤ s) && decide (s ≤ 32)) (by kernel_rfl) ?_
          intro f9 w1 hv hbel
          have h32 : f9 32 = .bool q := hv 14 _ _ rfl rfl
          clear hv
          generalize hF : (Act.mk (List.toArray (frm f9 _ 0 _)) _) = fr
          simp [frm] at hF
          rw [h32] at hF
          subst hF
          generalize f9 18 = u18 at *
          generalize f9 19 = u19 at *
          generalize f9 20 = u20 at *
          generalize f9 21 = u21 at *
          generalize f9 22 = u22 at *
          generalize f9 23 = u23 at *
          generalize f9 24 = u24 at *
          generalize f9 25 = u25 at *
          generalize f9 26 = u26 at *
          generalize f9 27 = u27 at *
          generalize f9 28 = u28 at *
          generalize f9 29 = u29 at *
          generalize f9 30 = u30 at *
          generalize f9 31 = u31 at *
          clear h32 f9

          cases q with
          | false =>
            have e1 : clsL t s.data.toList (l.take (i + 1)) = clsL t s.data.toList (l.take i) := by rw [HTK.out]; exact clsL_no _ _ (by rw [HCL.out]; decide)
            have hend : clsInvM t s l f cap w (.slice (some ⟨f, 0, none⟩) (clsL t s.data.toList (l.take i)).length cap) (.int .i64 ((i : Int) + 1)) w1 := ⟨i + 1, hlt, by simp, by rw [e1], ⟨fc, by rw [e1]; exact (HR.out.go (hbel.block f (Nat.lt_of_lt_of_le hfl H4.out.size))).skip⟩, H4.out.trans (Fm.below hbel)⟩
            have HEND := Lib.hid hend
            clear hbel e1 hend
            go_wp2
            rw [HW.out]
            exact ⟨HEND.out, by simp [intOf]; omega⟩
          | true =>
            obtain ⟨y, hy⟩ : ∃ y : Nat, y = x + 1 := ⟨_, rfl⟩
            have e1 : clsL t s.data.toList (l.take (i + 1)) = clsL t s.data.toList (l.take i) ++ [y] := by rw [HTK.out, hy]; exact clsL_yes _ _ HCL.out
            obtain ⟨i0, hi0, hz0, hz1, hz2⟩ := info_parts infoI10
            have hF1 : Fm (fun x => x = f) w w1 := H4.out.trans (Fm.below hbel)
            have hfl1 : f < w1.heap.size := Nat.lt_of_lt_of_le hfl hF1.size
            have hR3 : InRow (w1.alloc (.cells #[.int .i64 (y : Nat)] 3)) f cap l (clsL t s.data.toList (l.take i)) i fc := HR.out.go ((Below.heap_alloc _ _ _ hfl1).trans (hbel.block f (Nat.lt_of_lt_of_le hfl H4.out.size)))
            have hroom : (clsL t s.data.toList (l.take i)).length + 1 ≤ cap := by have := hR3.1; have := HLC.out; omega
            have hend : clsInvM t s l f cap w (.slice (some ⟨f, 0, none⟩) ((clsL t s.data.toList (l.take i)).length + 1) cap) (.int .i64 ((i : Int) + 1)) ((w1.alloc (.cells #[.int .i64 (y : Nat)] 3)).setRow f (fc.setIfInBounds (clsL t s.data.toList (l.take i)).length (.int .i64 (y : Nat)))) :=
              ⟨i + 1, hlt, by simp, by rw [e1]; simp, ⟨_, by rw [e1]; exact hR3.put hlt HLC.out y⟩, (hF1.trans (Fm.alloc _ _)).trans ⟨rfl, rfl, rfl, by simp [World.setRow], fun b hb hn => setRow_other _ f b _ hn⟩⟩
            have HEND := Lib.hid hend
            have HR3 := Lib.hid hR3
            have hx2 : IntKind.i64.wrap ((x : Int) + 1) = (y : Int) := by rw [hy, IntKind.wrap_i64]; omega
            have HX2 := Lib.hid hx2
            clear hx2
            have hx1 : wrap64 ((x : Int) + 1) = (y : Int) := by rw [hy]; unfold wrap64; omega
            clear hy
            have hx2 := HX2.out
            clear hbel e1 hend hz0 hz2 hR3 hF1 CX c1 KH
            go_wp2_with (at_builtin; refine wpList_append_in rfl _ _ 33 rfl 3 i0 Try.underlying33 hi0 hz1 f _ cap fc rfl HR3.out.2.1 w1.heap.size 1 (.int .i64 (y : Nat)) rfl ?c1 rfl hroom HR3.out.2.2.1 ?_)
            case c1 => rw [Lib.cell_of_heap (blk_new w1 _)]; rfl
            go_wp2
            rw [HW.out]
            clear hx1 hx2
            exact ⟨HEND.out, by simp [intOf]; omega⟩
        · have hlt2 : ¬ (x : Int) < (s.size : Int) := by omega
          have HLT := Lib.hid hlt2
          have hcl : ¬ clsP t s.data.toList x = true := by
            rw [clsP_iff]
            exact fun ⟨h, _⟩ => hxl (by rw [Array.length_toList] at h; exact h)
          have HCL := Lib.hid hcl
          clear hcl hlt2 htt
          go_wp2_with fail
          refine wp_region_order (fun j => ([SP.eq (.int .i64 (x : Nat)), SP.eq (.string s), SP.eq (.int .i64 s.size), SP.eq (.bool false), SP.eq (.bool false), SP.free, SP.free, SP.free, SP.free, SP.free, SP.free, SP.free, SP.free, SP.free, SP.eq (.bool false)] : List SP).getD j SP.free) (by kernel_rfl) (by kernel_rfl) ⟨?_, ?_, ?_, ?_, ?_, ?_, ?_, ?_, ?_, ?_, ?_, ?_, ?_, ?_, ?_, trivial⟩ ?_
          · intro a x1 K out get hb hK
            rw [if_pos (wanted_none rfl)]
            have o9 : a.tmps[9]? = some (.int .i64 (x : Nat)) := out 9 (by kernel_rfl)
            clear out get
            go_simp
            exact hK _ _ rfl (Below.refl _ _)
          · intro a x1 K out get hb hK
            rw [if_pos (wanted_none rfl)]
            have o1 : a.tmps[1]? = some (.string s) := out 1 (by kernel_rfl)
            clear out get
            go_simp
            exact hK _ _ rfl (Below.refl _ _)
          · intro a x1 K out get hb hK
            rw [if_pos (wanted_none rfl)]
            obtain ⟨y19, hy19, rfl⟩ := get 1 _ _ rfl rfl (by kernel_rfl)
            clear out get
            go_simp
            exact hK _ _ rfl (Below.refl _ _)
          · intro a x1 K out get hb hK
            rw [if_pos (wanted_none rfl)]
            obtain ⟨y18, hy18, rfl⟩ := get 0 _ _ rfl rfl (by kernel_rfl)
            obtain ⟨y20, hy20, rfl⟩ := get 2 _ _ rfl rfl (by kernel_rfl)
            clear out get
            have hlt := HLT.out
            go_simp
            exact hK _ _ rfl (Below.refl _ _)
          · intro a x1 K out get hb hK
            rw [if_pos (wanted_none rfl)]
            obtain ⟨y21, hy21, rfl⟩ := get 3 _ _ rfl rfl (by kernel_rfl)
            clear out get
            go_simp
            exact hK _ _ rfl (Below.refl _ _)
          · intro a x1 K out get hb hK
            obtain ⟨yg, hyg, rfl⟩ := get 4 _ _ rfl rfl (by kernel_rfl)
            rw [if_neg (by rw [wanted_bool rfl rfl rfl hyg]; decide)]
            exact hK _ _ trivial (Below.refl _ _)
          · intro a x1 K out get hb hK
            obtain ⟨yg, hyg, rfl⟩ := get 4 _ _ rfl rfl (by kernel_rfl)
            rw [if_neg (by rw [wanted_bool rfl rfl rfl hyg]; decide)]
            exact hK _ _ trivial (Below.refl _ _)
          · intro a x1 K out get hb hK
            obtain ⟨yg, hyg, rfl⟩ := get 4 _ _ rfl rfl (by kernel_rfl)
            rw [if_neg (by rw [wanted_bool rfl rfl rfl hyg]; decide)]
            exact hK _ _ trivial (Below.refl _ _)
          · intro a x1 K out get hb hK
            obtain ⟨yg, hyg, rfl⟩ := get 4 _ _ rfl rfl (by kernel_rfl)
            rw [if_neg (by rw [wanted_bool rfl rfl rfl hyg]; decide)]
            exact hK _ _ trivial (Below.refl _ _)
          · intro a x1 K out get hb hK
            obtain ⟨yg, hyg, rfl⟩ := get 4 _ _ rfl rfl (by kernel_rfl)
            rw [if_neg (by rw [wanted_bool rfl rfl rfl hyg]; decide)]
            exact hK _ _ trivial (Below.refl _ _)
          · intro a x1 K out get hb hK
            obtain ⟨yg, hyg, rfl⟩ := get 4 _ _ rfl rfl (by kernel_rfl)
            rw [if_neg (by rw [wanted_bool rfl rfl rfl hyg]; decide)]
            exact hK _ _ trivial (Below.refl _ _)
          · intro a x1 K out get hb hK
            obtain ⟨yg, hyg, rfl⟩ := get 4 _ _ rfl rfl (by kernel_rfl)
            rw [if_neg (by rw [wanted_bool rfl rfl rfl hyg]; decide)]
            exact hK _ _ trivial (Below.refl _ _)
          · intro a x1 K out get hb hK
            obtain ⟨yg, hyg, rfl⟩ := get 4 _ _ rfl rfl (by kernel_rfl)
            rw [if_neg (by rw [wanted_bool rfl rfl rfl hyg]; decide)]
            exact hK _ _ trivial (Below.refl _ _)
          · intro a x1 K out get hb hK
            obtain ⟨yg, hyg, rfl⟩ := get 4 _ _ rfl rfl (by kernel_rfl)
            rw [if_neg (by rw [wanted_bool rfl rfl rfl hyg]; decide)]
            exact hK _ _ trivial (Below.refl _ _)
          · intro a x1 K out get hb hK
            rw [if_pos (wanted_none rfl)]
            obtain ⟨y22, hy22, rfl⟩ := get 4 _ _ rfl rfl (by kernel_rfl)
            obtain ⟨y31, hy31, -⟩ := get 13 _ _ rfl rfl (by kernel_rfl)
            clear out get
            go_simp
            exact hK _ _ rfl (Below.refl _ _)
          refine ao_fin (isD := fun s => decide (18 ≤ s) && decide (s ≤ 32)) (by kernel_rfl) ?_
          intro f9 w1 hv hbel
          have h32 : f9 32 = .bool false := hv 14 _ _ rfl rfl
          clear hv
          generalize hF : (Act.mk (List.toArray (frm f9 _ 0 _)) _) = fr
          simp [frm] at hF
          rw [h32] at hF
          subst hF
          generalize f9 18 = u18 at *
          generalize f9 19 = u19 at *
          generalize f9 20 = u20 at *
          generalize f9 21 = u21 at *
          generalize f9 22 = u22 at *
          generalize f9 23 = u23 at *
          generalize f9 24 = u24 at *
          generalize f9 25 = u25 at *
          generalize f9 26 = u26 at *
          generalize f9 27 = u27 at *
          generalize f9 28 = u28 at *
          generalize f9 29 = u29 at *
          generalize f9 30 = u30 at *
          generalize f9 31 = u31 at *
          clear h32 f9
          have e1 : clsL t s.data.toList (l.take (i + 1)) = clsL t s.data.toList (l.take i) := by rw [HTK.out]; exact clsL_no _ _ (HCL.out)
          have hend : clsInvM t s l f cap w (.slice (some ⟨f, 0, none⟩) (clsL t s.data.toList (l.take i)).length cap) (.int .i64 ((i : Int) + 1)) w1 := ⟨i + 1, hlt, by simp, by rw [e1], ⟨fc, by rw [e1]; exact (HR.out.go (hbel.block f (Nat.lt_of_lt_of_le hfl H4.out.size))).skip⟩, H4.out.trans (Fm.below hbel)⟩
          have HEND := Lib.hid hend
          clear hbel e1 hend
          go_wp2
          rw [HW.out]
          exact ⟨HEND.out, by simp [intOf]; omega⟩
      · have q1 : ¬ (i : Int) < (l.length : Int) := by omega
        obtain rfl : i = l.length := by omega
        have hown := hR.own (Nat.le_refl _) HLC.out HCM.out
        rw [List.take_length] at hown ⊢
        have hF' : Fm (fun x => F x ∨ (Value.slice (some ⟨f, 0, none⟩) l.length cap).ownBlock = some x) w wr := h4.mono fun y _ hy => .inr (by rw [hy]; rfl)
        have hend : EndsPostP s.data.toList (.cls ⟨sa, sb, sc, sd⟩) H l (.slice (some ⟨f, 0, none⟩) l.length cap) g F w (.returned (.slice (some ⟨f, 0, none⟩) (clsL ⟨sa, sb, sc, sd⟩ s.data.toList l).length cap)) wr :=
          ⟨_, _, F, rfl, hown, fun b hb => ⟨HVF.out b hb, .inl hb⟩, tld_cls HAA.out, HPP.out.go _ h4.size fun y hy => h4.block y (HPP.out.lt y hy) fun e => hfF (by rw [← e]; exact hy), fun y hy => .inl hy, hF'⟩
        have HEND := Lib.hid hend
        clear hR h4 hown hF' hend
        go_wp2
        go_ret
        exact HEND.out
open Go.RowKit
theorem EndsPostP.pre {s : List UInt8} {e : Ex} {H : Nat → Prop} {l : List Nat} {v : Value} {g : Nat} {F : Nat → Prop} {w w1 w' : World} {x : Ending} (hb : Below w.heap.size w w1) (h : EndsPostP s e H l v g F w1 x w') : EndsPostP s e H l v g F w x w' := by
  obtain ⟨v', l', F', h1, h2, h3, h4, h5, h6, h7⟩ := h
  exact ⟨v', l', F', h1, h2, fun f hf => ⟨(h3 f hf).1, (h3 f hf).2.imp id fun h => Nat.le_trans hb.size h⟩, h4, h5, fun y hy => (h6 y hy).imp id fun h => Nat.le_trans hb.size h, (Fm.below hb).trans h7⟩
theorem EndsPostP.ret {s : List UInt8} {e : Ex} {H : Nat → Prop} {l : List Nat} {v : Value} {g : Nat} {F : Nat → Prop} {w w' : World} {x : Ending} (h : EndsPostP s e H l v g F w x w') : ∃ y, x = .returned y := by
  obtain ⟨v', l', F', h1, h2⟩ := h
  exact ⟨v', h1⟩
set_option maxRecDepth 100000 in
set_option maxHeartbeats 4000000 in
theorem mends_nil (s : ByteArray) (e : Ex) (H : Nat → Prop) (w : World) (g : Nat) (F : Nat → Prop) (v : Value) (hp : PartAt s.data.toList e H w g F) (hv : OwnI w v []) :
    Calls Try.prog 28 #[.pointer (some ⟨g, 0, none⟩), .string s, v] w (EndsPostP s.data.toList e H [] v g F w) := by
  have hend : EndsPostP s.data.toList e H [] v g F w (.returned (.slice none 0 0)) w := ⟨_, [], F, rfl, OwnI.nil w, fun f hf => (by cases hf), tld_none, by rw [also_nil]; exact hp, fun y hy => .inl hy, Fm.refl _ _⟩
  have HEND := Lib.hid hend
  obtain ⟨a, c, rfl⟩ : ∃ a c, v = .slice a 0 c := by
    rcases hv.form with ⟨rfl, _⟩ | ⟨f, cap, fc, rfl, _⟩
    · exact ⟨_, _, rfl⟩
    · exact ⟨_, _, rfl⟩
  clear hend hp hv
  go_enter Try.func28, Try.ntmps28
  go_wp2
  go_ret
  exact HEND.out
set_option maxRecDepth 100000 in
set_option maxHeartbeats 4000000 in
theorem mends_empty (s : ByteArray) : EndsK s .empty := by
  intro H l w g F v hp hv hvF ha
  by_cases hl : l = []
  · subst hl; exact mends_nil s _ H w g F v hp hv
  rcases hv.form with ⟨_, h0⟩ | ⟨f, cap, fc, rfl, -, -, -, -, -⟩
  · exact absurd h0 hl
  have hend : EndsPostP s.data.toList .empty H l (.slice (some ⟨f, 0, none⟩) l.length cap) g F w (.returned (.slice none 0 0)) w := ⟨_, [], F, rfl, OwnI.nil w, fun f hf => (by cases hf), tld_empty, hp, fun y hy => .inl hy, Fm.refl _ _⟩
  obtain ⟨_, _, kv, tv, sl, hg⟩ := hp
  have c0 : w.cell? ⟨g, 0, none⟩ = some (.int .u8 1) := by rw [Lib.cell_of_heap hg]; rfl
  have q1 : ((l.length : Int) == 0) = false := by cases l with | nil => exact absurd rfl hl | cons x l => simp; omega
  have HEND := Lib.hid hend
  clear hend hg hv hvF ha hl
  go_enter Try.func28, Try.ntmps28
  go_wp2
  go_ret
  exact HEND.out
set_option maxRecDepth 100000 in
set_option maxHeartbeats 4000000 in
theorem mends_eps (s : ByteArray) : EndsK s .eps := by
  intro H l w g F v hp hv hvF ha
  by_cases hl : l = []
  · subst hl; exact mends_nil s _ H w g F v hp hv
  rcases id hv.form with ⟨_, h0⟩ | ⟨f, cap, fc, rfl, -, -, -, -, -⟩
  · exact absurd h0 hl
  have hend : EndsPostP s.data.toList .eps H l (.slice (some ⟨f, 0, none⟩) l.length cap) g F w (.returned (.slice (some ⟨f, 0, none⟩) l.length cap)) w := ⟨_, l, F, rfl, hv, fun b hb => ⟨hvF b hb, .inl hb⟩, tld_eps ha, hp, fun y hy => .inl hy, Fm.refl _ _⟩
  obtain ⟨_, _, kv, tv, sl, hg⟩ := hp
  have c0 : w.cell? ⟨g, 0, none⟩ = some (.int .u8 2) := by rw [Lib.cell_of_heap hg]; rfl
  have q1 : ((l.length : Int) == 0) = false := by cases l with | nil => exact absurd rfl hl | cons x l => simp; omega
  have HEND := Lib.hid hend
  clear hend hg hv hvF ha hl
  go_enter Try.func28, Try.ntmps28
  go_wp2
  go_ret
  exact HEND.out
set_option maxRecDepth 100000 in
set_option maxHeartbeats 4000000 in
theorem mends_cls (s : ByteArray) (hs : s.size ≤ 60) (t : Ws) (ht : t.Ok) : EndsK s (.cls t) := by
  intro H l w g F v hp hv hvF ha
  by_cases hl : l = []
  · subst hl; exact mends_nil s _ H w g F v hp hv
  have KC := Lib.hid (mclass_any t s ht hs H l w g F v hp hv hvF ha hl)
  rcases id hv.form with ⟨_, h0⟩ | ⟨f, cap, fc, rfl, -, -, -, -, -⟩
  · exact absurd h0 hl
  obtain ⟨_, _, kv, tv, sl, hg⟩ := hp
  have c0 : w.cell? ⟨g, 0, none⟩ = some (.int .u8 3) := by rw [Lib.cell_of_heap hg]; rfl
  have q1 : ((l.length : Int) == 0) = false := by cases l with | nil => exact absurd rfl hl | cons x l => simp; omega
  clear hg hv hvF ha hl
  go_enter Try.func28, Try.ntmps28
  go_wp2_with fail
  refine KC.out.mono ?_
  intro e w1 he
  obtain ⟨y, rfl⟩ := he.ret
  have HE := Lib.hid he
  clear he
  go_wp2
  go_ret
  exact HE.out
set_option maxRecDepth 100000 in
set_option maxHeartbeats 4000000 in
theorem mends_seq (s : ByteArray) (a b : Ex) (KA : EndsK s a) (KB : EndsK s b) : EndsK s (.seq a b) := by
  intro H l w g F v hp hv hvF ha
  by_cases hl : l = []
  · subst hl; exact mends_nil s _ H w g F v hp hv
  rcases id hv.form with ⟨_, h0⟩ | ⟨f, cap, fc, rfl, -, -, -, -, -⟩
  · exact absurd h0 hl
  obtain ⟨hgF, hFl, tv, k, kc, ga, gb, Fa, Fb, ⟨sl, hg⟩, hP, hkF, hkg, hA, hB, sa, sb⟩ := hp
  have hfF : ¬ F f := hvF f rfl
  have hfl : f < w.heap.size := hv.lt (f := f) rfl
  have c0 : w.cell? ⟨g, 0, none⟩ = some (.int .u8 4) := by rw [Lib.cell_of_heap hg]; rfl
  have q1 : ((l.length : Int) == 0) = false := by cases l with | nil => exact absurd rfl hl | cons x l => simp; omega
  have hgl : g < w.heap.size := hFl g hgF
  have hkl : k < w.heap.size := hFl k hkF
  have hC0 : ∀ W : World, W.heap[g]? = w.heap[g]? → W.heap[k]? = w.heap[k]? → W.cell? ⟨g, 6, none⟩ = some (.slice (some ⟨k, 0, none⟩) 2 kc) ∧ W.cell? ⟨k, 0, none⟩ = some (.pointer (some ⟨ga, 0, none⟩)) ∧ W.cell? ⟨k, 1, none⟩ = some (.pointer (some ⟨gb, 0, none⟩)) := fun W h1 h2 =>
    ⟨by rw [Lib.cell_of_heap (h1.trans hg)]; rfl, (hP.go h2).cell 0 (by simp), (hP.go h2).cell 1 (by simp)⟩
  have KA1 := Lib.hid fun (x : World) (hx : Below w.heap.size w x) => (KA H l x ga Fa (.slice (some ⟨f, 0, none⟩) l.length cap) (hA.below hx) (hv.below hx) (fun b hb h => hvF b hb (sa b h).1) ha).mono fun e w2 h => show (∃ y, e = .returned y) ∧ EndsPostP s.data.toList a H l (.slice (some ⟨f, 0, none⟩) l.length cap) ga Fa w e w2 from ⟨h.ret, h.pre hx⟩
  have CA := Lib.hid fun (y : Value) (W : World) (h : EndsPostP s.data.toList a H l (.slice (some ⟨f, 0, none⟩) l.length cap) ga Fa w (.returned y) W) => hC0 W
    (by obtain ⟨_, _, _, _, _, _, _, _, _, hF⟩ := h; exact hF.block g hgl fun e => e.elim (fun e => (sa g e).2.1 rfl) (fun e => by injection e with e; exact hfF (by rw [show f = g from e]; exact hgF)))
    (by obtain ⟨_, _, _, _, _, _, _, _, _, hF⟩ := h; exact hF.block k hkl fun e => e.elim (fun e => (sa k e).2.2.1 rfl) (fun e => by injection e with e; exact hfF (by rw [show f = k from e]; exact hkF)))
  have KB0 : ∀ (y : Value) (x : World), EndsPostP s.data.toList a H l (.slice (some ⟨f, 0, none⟩) l.length cap) ga Fa w (.returned y) x → Calls Try.prog 28 #[.pointer (some ⟨gb, 0, none⟩), .string s, y] x fun e w2 => (∃ z, e = .returned z) ∧ EndsPostP s.data.toList (.seq a b) H l (.slice (some ⟨f, 0, none⟩) l.length cap) g F w e w2 ∧ w2.heap[g]? = w.heap[g]? ∧ w2.heap[k]? = w.heap[k]? := by
    intro y x h
    obtain ⟨v', l1, Fa', e1, o1, n1, t1, p1, i1, m1⟩ := h
    injection e1 with e1
    subst e1
    have hBx : PartAt s.data.toList b (EndsP a s.data.toList H) x gb Fb := hB.fm m1 fun z hz e => e.elim (fun e => (sa z e).2.2.2 hz) (fun e => by injection e with e; exact hfF (by rw [show f = z from e]; exact (sb z hz).1))
    have hv1 : ∀ z, y.ownBlock = some z → ¬ Fb z := fun z hz hbz => by
      rcases (n1 z hz).2 with e | e
      · injection e with e; exact hfF (by rw [show f = z from e]; exact (sb z hbz).1)
      · have := hFl z (sb z hbz).1; omega
    refine (KB (EndsP a s.data.toList H) l1 x gb Fb y hBx o1 hv1 (tld_ask t1)).mono fun e w2 h => show (∃ z, e = .returned z) ∧ EndsPostP s.data.toList (.seq a b) H l (.slice (some ⟨f, 0, none⟩) l.length cap) g F w e w2 ∧ w2.heap[g]? = w.heap[g]? ∧ w2.heap[k]? = w.heap[k]? from ?_
    refine ⟨h.ret, ?_⟩
    obtain ⟨v2, l2, Fb', e2, o2, n2, t2, p2, i2, m2⟩ := h
    have hFm : Fm (fun z => F z ∨ (Value.slice (some ⟨f, 0, none⟩) l.length cap).ownBlock = some z) w w2 := (m1.mono fun z _ hz => hz.imp (fun h => (sa z h).1) id).then m2 fun z hz h => by
      rcases h with h | h
      · exact .inl (sb z h).1
      · rcases (n1 z h).2 with e | e
        · exact .inr e
        · omega
    have hgk : ∀ z, F z → ¬ Fa z → ¬ Fb z → w2.heap[z]? = w.heap[z]? := fun z hz ha hb => by
      have hzl := hFl z hz
      have hzf : z ≠ f := fun e => hfF (by rw [← e]; exact hz)
      refine (m2.block z (Nat.lt_of_lt_of_le hzl m1.size) fun e => e.elim hb fun e => ?_).trans (m1.block z hzl fun e => e.elim ha fun e => ?_)
      · rcases (n1 z e).2 with e | e
        · injection e with e; exact hzf e.symm
        · omega
      · injection e with e; exact hzf e.symm
    have hdis : ∀ z, Fa' z → ¬ Fb' z := fun z h1 h2 => by
      have hz1 := p1.lt z h1
      rcases i2 z h2 with h2 | h2
      · rcases i1 z h1 with h1 | h1
        · exact (sa z h1).2.2.2 h2
        · have := hFl z (sb z h2).1; omega
      · omega
    have hpa : PartAt s.data.toList a (Also H l) w2 ga Fa' := p1.fm m2 fun z hz e => by
      rcases e with e | e
      · rcases i1 z hz with h1 | h1
        · exact (sa z h1).2.2.2 e
        · have := hFl z (sb z e).1; omega
      · exact (n1 z e).1 hz
    rw [tld_also t1] at p2
    have hgl2 : ∀ z, F z → z < w2.heap.size := fun z hz => Nat.lt_of_lt_of_le (hFl z hz) hFm.size
    have hag : ∀ z, Fa' z → z ≠ g ∧ z ≠ k := fun z hz => by
      rcases i1 z hz with h1 | h1
      · exact ⟨(sa z h1).2.1, (sa z h1).2.2.1⟩
      · omega
    have hbg : ∀ z, Fb' z → z ≠ g ∧ z ≠ k := fun z hz => by
      rcases i2 z hz with h1 | h1
      · exact ⟨(sb z h1).2.1, (sb z h1).2.2⟩
      · have := m1.size; omega
    refine ⟨?_, hgk g hgF (fun h => (sa g h).2.1 rfl) (fun h => (sb g h).2.1 rfl), hgk k hkF (fun h => (sa k h).2.2.1 rfl) (fun h => (sb k h).2.2 rfl)⟩
    refine ⟨v2, l2, fun z => z = g ∨ z = k ∨ Fa' z ∨ Fb' z, e2, o2, fun z hz => ⟨fun h => ?_, ?_⟩, tld_seq t1 t2, ⟨.inl rfl, fun z hz => ?_, tv, k, kc, ga, gb, Fa', Fb', ⟨sl, (hgk g hgF (fun h => (sa g h).2.1 rfl) (fun h => (sb g h).2.1 rfl)).trans hg⟩, hP.go (hgk k hkF (fun h => (sa k h).2.2.1 rfl) (fun h => (sb k h).2.2 rfl)), .inr (.inl rfl), hkg, hpa, p2, fun z hz => ⟨.inr (.inr (.inl hz)), (hag z hz).1, (hag z hz).2, hdis z hz⟩, fun z hz => ⟨.inr (.inr (.inr hz)), (hbg z hz).1, (hbg z hz).2⟩⟩, fun z hz => ?_, hFm⟩
    · have hor : f = z ∨ w.heap.size ≤ z := by
        rcases (n2 z hz).2 with e | e
        · rcases (n1 z e).2 with e | e
          · injection e with e; exact .inl e
          · exact .inr e
        · exact .inr (Nat.le_trans m1.size e)
      rcases h with h | h | h | h
      · rcases hor with e | e
        · exact hfF (by rw [e, h]; exact hgF)
        · omega
      · rcases hor with e | e
        · exact hfF (by rw [e, h]; exact hkF)
        · omega
      · rcases (n2 z hz).2 with e | e
        · exact (n1 z e).1 h
        · have := p1.lt z h; omega
      · exact (n2 z hz).1 h
    · rcases (n2 z hz).2 with e | e
      · exact (n1 z e).2
      · exact .inr (Nat.le_trans m1.size e)
    · rcases hz with h | h | h | h
      · rw [h]; exact hgl2 g hgF
      · rw [h]; exact hgl2 k hkF
      · exact hpa.lt z h
      · exact p2.lt z h
    · rcases hz with h | h | h | h
      · exact .inl (by rw [h]; exact hgF)
      · exact .inl (by rw [h]; exact hkF)
      · exact (i1 z h).imp (fun h => (sa z h).1) id
      · exact (i2 z h).imp (fun h => (sb z h).1) fun h => Nat.le_trans m1.size h
  have KB1 := Lib.hid KB0
  clear KB0
  have CC := Lib.hid hC0
  clear hC0 hg hP hA hB sa sb hv hvF ha hl KA KB hfF
  go_enter Try.func28, Try.ntmps28
  go_wp2_with fail
  refine wp_region_orderX [15, 16, 17] (fun i => if i = 15 then 2 else if i = 16 then 3 else if i = 17 then 4 else 1) (pvS [some (.pointer (some ⟨g, 0, none⟩)), some (.pointer (some ⟨g, 0, none⟩)), some (.pointer (some ⟨g, 6, none⟩)), some (.slice (some ⟨k, 0, none⟩) 2 kc), some (.pointer (some ⟨k, 1, none⟩)), some (.pointer (some ⟨gb, 0, none⟩)), some (.string s), some (.pointer (some ⟨g, 0, none⟩)), some (.pointer (some ⟨g, 0, none⟩)), some (.pointer (some ⟨g, 6, none⟩)), some (.slice (some ⟨k, 0, none⟩) 2 kc), some (.pointer (some ⟨k, 0, none⟩)), some (.pointer (some ⟨ga, 0, none⟩)), some (.string s), some (.slice (some ⟨f, 0, none⟩) l.length cap), none, none, none]) (pv [some (.pointer (some ⟨g, 0, none⟩)), some (.pointer (some ⟨g, 0, none⟩)), some (.pointer (some ⟨g, 6, none⟩)), some (.slice (some ⟨k, 0, none⟩) 2 kc), some (.pointer (some ⟨k, 1, none⟩)), some (.pointer (some ⟨gb, 0, none⟩)), some (.string s), some (.pointer (some ⟨g, 0, none⟩)), some (.pointer (some ⟨g, 0, none⟩)), some (.pointer (some ⟨g, 6, none⟩)), some (.slice (some ⟨k, 0, none⟩) 2 kc), some (.pointer (some ⟨k, 0, none⟩)), some (.pointer (some ⟨ga, 0, none⟩)), some (.string s), some (.slice (some ⟨f, 0, none⟩) l.length cap), none, none, none]) (fun W => Below w.heap.size w W)
    (fun W => W.cell? ⟨g, 6, none⟩ = some (.slice (some ⟨k, 0, none⟩) 2 kc) ∧ W.cell? ⟨k, 0, none⟩ = some (.pointer (some ⟨ga, 0, none⟩)) ∧ W.cell? ⟨k, 1, none⟩ = some (.pointer (some ⟨gb, 0, none⟩)))
    (fun m y W => (match m with
      | 0 => EndsPostP s.data.toList a H l (.slice (some ⟨f, 0, none⟩) l.length cap) ga Fa w (.returned y) W
      | _ => EndsPostP s.data.toList (.seq a b) H l (.slice (some ⟨f, 0, none⟩) l.length cap) g F w (.returned y) W) ∧ W.cell? ⟨g, 6, none⟩ = some (.slice (some ⟨k, 0, none⟩) 2 kc) ∧ W.cell? ⟨k, 0, none⟩ = some (.pointer (some ⟨ga, 0, none⟩)) ∧ W.cell? ⟨k, 1, none⟩ = some (.pointer (some ⟨gb, 0, none⟩)))
    (Below.refl _ _).drew (fun W h => CC.out W (h.block g hgl) (h.block k hkl)) (fun m v W h => h.2) (fun W W2 h hb => h.trans (hb.mono h.size)) (fun _ _ _ h => h) (by kernel_rfl) (by kernel_rfl) ⟨?_, ?_, ?_, ?_, ?_, ?_, ?_, ?_, ?_, ?_, ?_, ?_, ?_, ?_, ?_, ?_, ?_, ?_, trivial⟩ ?_
  · intro a x K out get old hC hK
    rw [if_pos (wanted_none rfl)]
    have o0 : a.tmps[0]? = some (.pointer (some ⟨g, 0, none⟩)) := out 0 (by kernel_rfl)
    clear out get old
    go_simp
    exact hK _ rfl (fun _ => rfl)
  · intro a x K out get old hC hK
    rw [if_pos (wanted_none rfl)]
    obtain ⟨y26, hy26, rfl⟩ := get 0 _ _ rfl rfl (by kernel_rfl)
    clear out get old
    go_simp
    exact hK _ rfl (fun _ => rfl)
  · intro a x K out get old hC hK
    rw [if_pos (wanted_none rfl)]
    obtain ⟨y27, hy27, rfl⟩ := get 1 _ _ rfl rfl (by kernel_rfl)
    clear out get old
    go_simp
    exact hK _ rfl (fun _ => rfl)
  · intro a x K out get old hC hK
    rw [if_pos (wanted_none rfl)]
    obtain ⟨y28, hy28, rfl⟩ := get 2 _ _ rfl rfl (by kernel_rfl)
    clear out get old
    obtain ⟨d0, d1, d2⟩ := hC
    go_simp
    exact hK _ rfl (fun _ => rfl)
  · intro a x K out get old hC hK
    rw [if_pos (wanted_none rfl)]
    obtain ⟨y29, hy29, rfl⟩ := get 3 _ _ rfl rfl (by kernel_rfl)
    clear out get old
    go_simp
    exact hK _ rfl (fun _ => rfl)
  · intro a x K out get old hC hK
    rw [if_pos (wanted_none rfl)]
    obtain ⟨y30, hy30, rfl⟩ := get 4 _ _ rfl rfl (by kernel_rfl)
    clear out get old
    obtain ⟨d0, d1, d2⟩ := hC
    go_simp
    exact hK _ rfl (fun _ => rfl)
  · intro a x K out get old hC hK
    rw [if_pos (wanted_none rfl)]
    have o1 : a.tmps[1]? = some (.string s) := out 1 (by kernel_rfl)
    clear out get old
    go_simp
    exact hK _ rfl (fun _ => rfl)
  · intro a x K out get old hC hK
    rw [if_pos (wanted_none rfl)]
    have o0 : a.tmps[0]? = some (.pointer (some ⟨g, 0, none⟩)) := out 0 (by kernel_rfl)
    clear out get old
    go_simp
    exact hK _ rfl (fun _ => rfl)
  · intro a x K out get old hC hK
    rw [if_pos (wanted_none rfl)]
    obtain ⟨y33, hy33, rfl⟩ := get 7 _ _ rfl rfl (by kernel_rfl)
    clear out get old
    go_simp
    exact hK _ rfl (fun _ => rfl)
  · intro a x K out get old hC hK
    rw [if_pos (wanted_none rfl)]
    obtain ⟨y34, hy34, rfl⟩ := get 8 _ _ rfl rfl (by kernel_rfl)
    clear out get old
    go_simp
    exact hK _ rfl (fun _ => rfl)
  · intro a x K out get old hC hK
    rw [if_pos (wanted_none rfl)]
    obtain ⟨y35, hy35, rfl⟩ := get 9 _ _ rfl rfl (by kernel_rfl)
    clear out get old
    obtain ⟨d0, d1, d2⟩ := hC
    go_simp
    exact hK _ rfl (fun _ => rfl)
  · intro a x K out get old hC hK
    rw [if_pos (wanted_none rfl)]
    obtain ⟨y36, hy36, rfl⟩ := get 10 _ _ rfl rfl (by kernel_rfl)
    clear out get old
    go_simp
    exact hK _ rfl (fun _ => rfl)
  · intro a x K out get old hC hK
    rw [if_pos (wanted_none rfl)]
    obtain ⟨y37, hy37, rfl⟩ := get 11 _ _ rfl rfl (by kernel_rfl)
    clear out get old
    obtain ⟨d0, d1, d2⟩ := hC
    go_simp
    exact hK _ rfl (fun _ => rfl)
  · intro a x K out get old hC hK
    rw [if_pos (wanted_none rfl)]
    have o1 : a.tmps[1]? = some (.string s) := out 1 (by kernel_rfl)
    clear out get old
    go_simp
    exact hK _ rfl (fun _ => rfl)
  · intro a x K out get old hC hK
    rw [if_pos (wanted_none rfl)]
    have o2 : a.tmps[2]? = some (.slice (some ⟨f, 0, none⟩) l.length cap) := out 2 (by kernel_rfl)
    clear out get old
    go_simp
    exact hK _ rfl (fun _ => rfl)
  · intro a x K out get hJ hK
    rw [if_pos (wanted_none rfl)]
    obtain ⟨y38, hy38, rfl, -⟩ := get 12 _ _ rfl rfl (by kernel_rfl)
    obtain ⟨y39, hy39, rfl, -⟩ := get 13 _ _ rfl rfl (by kernel_rfl)
    obtain ⟨y40, hy40, rfl, -⟩ := get 14 _ _ rfl rfl (by kernel_rfl)
    clear out get
    have hx : Below w.heap.size w x := hJ
    go_simp
    refine (KA1.out x hx).mono ?_
    rintro e w2 ⟨⟨v2, e2⟩, h2⟩
    subst e2
    exact hK _ _ trivial ⟨h2, CA.out v2 w2 h2⟩
  · intro a x K out get hJ hK
    rw [if_pos (wanted_none rfl)]
    obtain ⟨y31, hy31, rfl, -⟩ := get 5 _ _ rfl rfl (by kernel_rfl)
    obtain ⟨y32, hy32, rfl, -⟩ := get 6 _ _ rfl rfl (by kernel_rfl)
    obtain ⟨y41, hy41, hG⟩ := hJ
    clear out get
    go_simp
    refine (KB1.out y41 x hG.1).mono ?_
    rintro e w2 ⟨⟨v2, e2⟩, h2, h3, h4⟩
    subst e2
    exact hK _ _ trivial ⟨h2, CC.out w2 h3 h4⟩
  · intro a x K out get hJ hK
    rw [if_pos (wanted_none rfl)]
    obtain ⟨y42, hy42, hG⟩ := hJ
    clear out get
    go_simp
    exact hK _ _ trivial hG
  refine ao_finX (isD := fun s => (decide (26 ≤ s) && decide (s ≤ 42)) || decide (s = 6)) 2 (some 6) rfl (by kernel_rfl) (by kernel_rfl) (by kernel_rfl) ?_
  intro f9 w1 hv hG hn
  have h6 := (hG 6 rfl).1
  clear hv hG hn
  have HE := Lib.hid h6
  clear h6
  simp only [frm]
  simp
  generalize f9 6 = u6 at *
  go_wp2
  go_ret
  exact HE.out
open Go.RowKit
theorem rx_form (e : Ex) : ∃ k s ks, e.rx = .node k s ks := by cases e <;> exact ⟨_, _, _, rfl⟩
open Go.RowKit
theorem node_sets {ok : Nat → Prop} {w : World} (N : Nat) : ∀ (r : Rx), r.size ≤ N → ∀ (b off : Nat), NodeAt ok w b off r → r.SetsOk := by
  induction N with
  | zero => intro r h; have := r.size_pos; omega
  | succ N ih =>
    rintro ⟨k, s, ks⟩ hN b off h
    have hN' : Rx.sizes ks ≤ N := by simp [Rx.size] at hN; omega
    unfold NodeAt at h
    obtain ⟨_, hs, _, al, cap, _, _, _, h3⟩ := h
    unfold Rx.SetsOk
    refine ⟨hs, fun r hr => ?_⟩
    rcases h3 with rfl | ⟨b', off', _, _, _, h4⟩
    · cases hr
    · obtain ⟨i, hi, rfl⟩ := List.getElem_of_mem hr
      exact ih _ (Nat.le_trans (size_kid hi) hN') _ _ (nodesAt_get h4 i hi)
theorem ReAt.sets {ok : Nat → Prop} {w : World} {v : Value} {r : Rx} (h : ReAt ok w v r) : r.SetsOk := by
  obtain ⟨k, s, ks⟩ := r
  obtain ⟨_, hs, al, cap, _, _, _, h3⟩ := h
  unfold Rx.SetsOk
  refine ⟨hs, fun r hr => ?_⟩
  rcases h3 with rfl | ⟨b', off', _, _, _, h4⟩
  · cases hr
  · obtain ⟨i, hi, rfl⟩ := List.getElem_of_mem hr
    exact node_sets _ _ (Nat.le_refl _) _ _ (nodesAt_get h4 i hi)
theorem may_good {r : Rx} (h : mayR r = true) : goodR r = true ∧ r.size ≤ 2000 := by
  unfold mayR mayN at h
  simpa using h
theorem may_ex {ok : Nat → Prop} {w : World} {v : Value} {r : Rx} (h : ReAt ok w v r) (hm : mayR r = true) : ∃ e : Ex, e.rx = r ∧ e.Wf ∧ e.size ≤ 2000 := by
  have hg := may_good hm
  obtain ⟨e, h1, h2⟩ := ex_of_good r.size r (Nat.le_refl _) hg.1 h.sets
  exact ⟨e, h1, h2, by rw [← Ex.size_rx, h1]; exact hg.2⟩
end Go.Proofs.Ytiegejbbjlhpdaa
/- Lemmas of mine. -/
namespace Go.Proofs.Ytiegejbbjlhpdaa
inductive PR where
  | ok (e : Ex) (l : List UInt8)
  | bad (l : List UInt8)
inductive SR where
  | ok (b : Nat) (l : List UInt8)
  | bad (l : List UInt8)
def hexV (c : UInt8) : Option Nat := if 48 ≤ c.toNat ∧ c.toNat ≤ 57 then some (c.toNat - 48) else if 97 ≤ c.toNat ∧ c.toNat ≤ 102 then some (c.toNat - 87) else none
def ownB (c : UInt8) : Bool := !specB c.toNat
def sgn : List UInt8 → SR
  | [] => .bad []
  | c :: l => if c = 92 then
      (match l with
      | [] => .bad []
      | d :: l1 => match hexV d with
        | none => .bad (d :: l1)
        | some x => match l1 with
          | [] => .bad []
          | d' :: l2 => match hexV d' with
            | none => .bad (d' :: l2)
            | some y => .ok (16 * x + y) l2)
    else if ownB c = true then .ok c.toNat l else .bad (c :: l)
def NotAt (c : UInt8) (l : List UInt8) : Prop := ∀ t, l ≠ c :: t
def ofS (s : Ws) : Ex := if sameW s Ws.nil = true then .empty else .cls s
def rngW (lo hi : Nat) : Ws := ofN (List.range' lo (hi + 1 - lo))
inductive PCls : Ws → List UInt8 → PR → Prop
  | done (out : Ws) (l : List UInt8) : PCls out (93 :: l) (.ok (ofS out) l)
  | bad1 {out : Ws} {l r : List UInt8} : NotAt 93 l → sgn l = .bad r → PCls out l (.bad r)
  | one {out : Ws} {l : List UInt8} {b : Nat} {l1 : List UInt8} {res : PR} : NotAt 93 l → sgn l = .ok b l1 → NotAt 45 l1 → PCls (out.join (rngW b b)) l1 res → PCls out l res
  | bad2 {out : Ws} {l : List UInt8} {b : Nat} {l2 r : List UInt8} : NotAt 93 l → sgn l = .ok b (45 :: l2) → sgn l2 = .bad r → PCls out l (.bad r)
  | less {out : Ws} {l : List UInt8} {b : Nat} {l2 : List UInt8} {b' : Nat} {l3 : List UInt8} : NotAt 93 l → sgn l = .ok b (45 :: l2) → sgn l2 = .ok b' l3 → b' < b → PCls out l (.bad l2)
  | range {out : Ws} {l : List UInt8} {b : Nat} {l2 : List UInt8} {b' : Nat} {l3 : List UInt8} {res : PR} : NotAt 93 l → sgn l = .ok b (45 :: l2) → sgn l2 = .ok b' l3 → b ≤ b' → PCls (out.join (rngW b b')) l3 res → PCls out l res
def stars : Ex → List UInt8 → Ex × List UInt8
  | e, [] => (e, [])
  | e, c :: l => if c = 42 then stars (.star e) l else (e, c :: l)
def begB : List UInt8 → Bool
  | [] => false
  | c :: _ => decide (c = 46) || decide (c = 91) || decide (c = 40) || decide (c = 92) || ownB c
inductive Tg where
  | atom
  | row
  | alt
inductive PX : Tg → List UInt8 → PR → Prop
  | dot (l : List UInt8) : PX .atom (46 :: l) (.ok (.cls Ws.full) l)
  | cls {l : List UInt8} {res : PR} : PCls Ws.nil l res → PX .atom (91 :: l) res
  | eps (l : List UInt8) : PX .atom (40 :: 41 :: l) (.ok .eps l)
  | round {l : List UInt8} {e : Ex} {l1 : List UInt8} : NotAt 41 l → PX .alt l (.ok e (41 :: l1)) → PX .atom (40 :: l) (.ok e l1)
  | roundNo {l : List UInt8} {e : Ex} {l1 : List UInt8} : NotAt 41 l → PX .alt l (.ok e l1) → NotAt 41 l1 → PX .atom (40 :: l) (.bad l1)
  | roundBad {l r : List UInt8} : NotAt 41 l → PX .alt l (.bad r) → PX .atom (40 :: l) (.bad r)
  | sign {l : List UInt8} {b : Nat} {l1 : List UInt8} : NotAt 46 l → NotAt 91 l → NotAt 40 l → sgn l = .ok b l1 → PX .atom l (.ok (.cls (rngW b b)) l1)
  | signBad {l r : List UInt8} : NotAt 46 l → NotAt 91 l → NotAt 40 l → sgn l = .bad r → PX .atom l (.bad r)
  | rowBad {l r : List UInt8} : PX .atom l (.bad r) → PX .row l (.bad r)
  | rowOne {l : List UInt8} {a : Ex} {l1 : List UInt8} {e : Ex} {l2 : List UInt8} : PX .atom l (.ok a l1) → stars a l1 = (e, l2) → begB l2 = false → PX .row l (.ok e l2)
  | rowMore {l : List UInt8} {a : Ex} {l1 : List UInt8} {p : Ex} {l2 : List UInt8} {e : Ex} {l3 : List UInt8} : PX .atom l (.ok a l1) → stars a l1 = (p, l2) → begB l2 = true → PX .row l2 (.ok e l3) → PX .row l (.ok (.seq p e) l3)
  | rowMoreBad {l : List UInt8} {a : Ex} {l1 : List UInt8} {p : Ex} {l2 r : List UInt8} : PX .atom l (.ok a l1) → stars a l1 = (p, l2) → begB l2 = true → PX .row l2 (.bad r) → PX .row l (.bad r)
  | altBad {l r : List UInt8} : PX .row l (.bad r) → PX .alt l (.bad r)
  | altOne {l : List UInt8} {e : Ex} {l1 : List UInt8} : PX .row l (.ok e l1) → NotAt 124 l1 → PX .alt l (.ok e l1)
  | altMore {l : List UInt8} {e : Ex} {l1 : List UInt8} {f : Ex} {l2 : List UInt8} : PX .row l (.ok e (124 :: l1)) → PX .alt l1 (.ok f l2) → PX .alt l (.ok (.alt e f) l2)
  | altMoreBad {l : List UInt8} {e : Ex} {l1 r : List UInt8} : PX .row l (.ok e (124 :: l1)) → PX .alt l1 (.bad r) → PX .alt l (.bad r)
theorem PCls.det {out : Ws} {l : List UInt8} {r1 : PR} (h : PCls out l r1) : ∀ {r2 : PR}, PCls out l r2 → r1 = r2 := by
  induction h with
  | done out l => intro r2 h2; cases h2 with
    | done => rfl
    | bad1 h _ => exact absurd rfl (h _)
    | one h _ _ _ => exact absurd rfl (h _)
    | bad2 h _ _ => exact absurd rfl (h _)
    | less h _ _ _ => exact absurd rfl (h _)
    | range h _ _ _ _ => exact absurd rfl (h _)
  | bad1 h1 h2 => intro r2 h; cases h with
    | done => exact absurd rfl (h1 _)
    | bad1 _ k => simp_all
    | one _ k _ _ => simp_all
    | bad2 _ k _ => simp_all
    | less _ k _ _ => simp_all
    | range _ k _ _ _ => simp_all
  | one h1 h2 h3 _ ih => intro r2 h; cases h with
    | done => exact absurd rfl (h1 _)
    | bad1 _ k => simp_all
    | one _ k _ q => rw [h2] at k; cases k; exact ih q
    | bad2 _ k _ => rw [h2] at k; cases k; exact absurd rfl (h3 _)
    | less _ k _ _ => rw [h2] at k; cases k; exact absurd rfl (h3 _)
    | range _ k _ _ _ => rw [h2] at k; cases k; exact absurd rfl (h3 _)
  | bad2 h1 h2 h3 => intro r2 h; cases h with
    | done => exact absurd rfl (h1 _)
    | bad1 _ k => simp_all
    | one _ k q _ => rw [h2] at k; cases k; exact absurd rfl (q _)
    | bad2 _ k q => rw [h2] at k; cases k; rw [h3] at q; cases q; rfl
    | less _ k q _ => rw [h2] at k; cases k; rw [h3] at q; cases q
    | range _ k q _ _ => rw [h2] at k; cases k; rw [h3] at q; cases q
  | less h1 h2 h3 h4 => intro r2 h; cases h with
    | done => exact absurd rfl (h1 _)
    | bad1 _ k => simp_all
    | one _ k q _ => rw [h2] at k; cases k; exact absurd rfl (q _)
    | bad2 _ k q => rw [h2] at k; cases k; rw [h3] at q; cases q
    | less _ k q _ => rw [h2] at k; cases k; rfl
    | range _ k q u _ => rw [h2] at k; cases k; rw [h3] at q; cases q; omega
  | range h1 h2 h3 h4 _ ih => intro r2 h; cases h with
    | done => exact absurd rfl (h1 _)
    | bad1 _ k => simp_all
    | one _ k q _ => rw [h2] at k; cases k; exact absurd rfl (q _)
    | bad2 _ k q => rw [h2] at k; cases k; rw [h3] at q; cases q
    | less _ k q u => rw [h2] at k; cases k; rw [h3] at q; cases q; omega
    | range _ k q u z => rw [h2] at k; cases k; rw [h3] at q; cases q; exact ih z
theorem sgn_41 (l : List UInt8) : sgn (41 :: l) = .bad (41 :: l) := by unfold sgn; simp; decide
theorem PX.det {t : Tg} {l : List UInt8} {r1 : PR} (h : PX t l r1) : ∀ {r2 : PR}, PX t l r2 → r1 = r2 := by
  induction h with
  | dot l => intro r2 h; cases h with
    | dot => rfl
    | sign k _ _ _ => exact absurd rfl (k _)
    | signBad k _ _ _ => exact absurd rfl (k _)
  | cls hc => intro r2 h; cases h with
    | cls k => exact hc.det k
    | sign _ k _ _ => exact absurd rfl (k _)
    | signBad _ k _ _ => exact absurd rfl (k _)
  | eps l => intro r2 h; cases h with
    | eps => rfl
    | round k _ => exact absurd rfl (k _)
    | roundNo k _ _ => exact absurd rfl (k _)
    | roundBad k _ => exact absurd rfl (k _)
    | sign _ _ k _ => exact absurd rfl (k _)
    | signBad _ _ k _ => exact absurd rfl (k _)
  | round h1 _ ih => intro r2 h; cases h with
    | eps => exact absurd rfl (h1 _)
    | round _ k => cases ih k; rfl
    | roundNo _ k q => cases ih k; exact absurd rfl (q _)
    | roundBad _ k => cases ih k
    | sign _ _ k _ => exact absurd rfl (k _)
    | signBad _ _ k _ => exact absurd rfl (k _)
  | roundNo h1 _ h3 ih => intro r2 h; cases h with
    | eps => exact absurd rfl (h1 _)
    | round _ k => cases ih k; exact absurd rfl (h3 _)
    | roundNo _ k q => cases ih k; rfl
    | roundBad _ k => cases ih k
    | sign _ _ k _ => exact absurd rfl (k _)
    | signBad _ _ k _ => exact absurd rfl (k _)
  | roundBad h1 _ ih => intro r2 h; cases h with
    | eps => exact absurd rfl (h1 _)
    | round _ k => cases ih k
    | roundNo _ k q => cases ih k
    | roundBad _ k => cases ih k; rfl
    | sign _ _ k _ => exact absurd rfl (k _)
    | signBad _ _ k _ => exact absurd rfl (k _)
  | sign h1 h2 h3 h4 => intro r2 h; cases h with
    | dot => exact absurd rfl (h1 _)
    | cls => exact absurd rfl (h2 _)
    | eps => exact absurd rfl (h3 _)
    | round => exact absurd rfl (h3 _)
    | roundNo => exact absurd rfl (h3 _)
    | roundBad => exact absurd rfl (h3 _)
    | sign _ _ _ k => rw [h4] at k; cases k; rfl
    | signBad _ _ _ k => rw [h4] at k; cases k
  | signBad h1 h2 h3 h4 => intro r2 h; cases h with
    | dot => exact absurd rfl (h1 _)
    | cls => exact absurd rfl (h2 _)
    | eps => exact absurd rfl (h3 _)
    | round => exact absurd rfl (h3 _)
    | roundNo => exact absurd rfl (h3 _)
    | roundBad => exact absurd rfl (h3 _)
    | sign _ _ _ k => rw [h4] at k; cases k
    | signBad _ _ _ k => rw [h4] at k; cases k; rfl
  | rowBad _ ih => intro r2 h; cases h with
    | rowBad k => cases ih k; rfl
    | rowOne k _ _ => cases ih k
    | rowMore k _ _ _ => cases ih k
    | rowMoreBad k _ _ _ => cases ih k
  | rowOne _ h2 h3 ih => intro r2 h; cases h with
    | rowBad k => cases ih k
    | rowOne k q _ => cases ih k; rw [h2] at q; cases q; rfl
    | rowMore k q u _ => cases ih k; rw [h2] at q; cases q; rw [h3] at u; cases u
    | rowMoreBad k q u _ => cases ih k; rw [h2] at q; cases q; rw [h3] at u; cases u
  | rowMore _ h2 h3 _ ih ih2 => intro r2 h; cases h with
    | rowBad k => cases ih k
    | rowOne k q u => cases ih k; rw [h2] at q; cases q; rw [h3] at u; cases u
    | rowMore k q _ z => cases ih k; rw [h2] at q; cases q; cases ih2 z; rfl
    | rowMoreBad k q _ z => cases ih k; rw [h2] at q; cases q; cases ih2 z
  | rowMoreBad _ h2 h3 _ ih ih2 => intro r2 h; cases h with
    | rowBad k => cases ih k
    | rowOne k q u => cases ih k; rw [h2] at q; cases q; rw [h3] at u; cases u
    | rowMore k q _ z => cases ih k; rw [h2] at q; cases q; cases ih2 z
    | rowMoreBad k q _ z => cases ih k; rw [h2] at q; cases q; cases ih2 z; rfl
  | altBad _ ih => intro r2 h; cases h with
    | altBad k => cases ih k; rfl
    | altOne k _ => cases ih k
    | altMore k _ => cases ih k
    | altMoreBad k _ => cases ih k
  | altOne _ h2 ih => intro r2 h; cases h with
    | altBad k => cases ih k
    | altOne k _ => cases ih k; rfl
    | altMore k _ => cases ih k; exact absurd rfl (h2 _)
    | altMoreBad k _ => cases ih k; exact absurd rfl (h2 _)
  | altMore _ _ ih ih2 => intro r2 h; cases h with
    | altBad k => cases ih k
    | altOne k q => cases ih k; exact absurd rfl (q _)
    | altMore k z => cases ih k; cases ih2 z; rfl
    | altMoreBad k z => cases ih k; cases ih2 z
  | altMoreBad _ _ ih ih2 => intro r2 h; cases h with
    | altBad k => cases ih k
    | altOne k q => cases ih k; exact absurd rfl (q _)
    | altMore k z => cases ih k; cases ih2 z
    | altMoreBad k z => cases ih k; cases ih2 z; rfl
end Go.Proofs.Ytiegejbbjlhpdaa
/- Lemmas of mine. -/
namespace Go.Proofs.Ytiegejbbjlhpdaa
theorem hexV_lt {c : UInt8} {x : Nat} (h : hexV c = some x) : x < 16 := by
  unfold hexV at h
  split at h
  · cases h; omega
  · split at h
    · cases h; omega
    · cases h
def SFact (l : List UInt8) : SR → Prop
  | .ok b l1 => b < 256 ∧ l1 <:+ l ∧ l1.length < l.length
  | .bad r => r <:+ l
theorem sgn_own (c : UInt8) (l : List UInt8) (h : c ≠ 92) : sgn (c :: l) = if ownB c = true then .ok c.toNat l else .bad (c :: l) := by
  simp only [sgn, if_neg h]
theorem sgn_92_nil : sgn [92] = .bad [] := rfl
theorem sgn_92_no {d : UInt8} (l : List UInt8) (h : hexV d = none) : sgn (92 :: d :: l) = .bad (d :: l) := by
  simp only [sgn, if_true, h]
theorem sgn_92_one {d : UInt8} {x : Nat} (h : hexV d = some x) : sgn [92, d] = .bad [] := by
  simp only [sgn, if_true, h]
theorem sgn_92_two {d d' : UInt8} {x : Nat} (l : List UInt8) (h : hexV d = some x) (h' : hexV d' = none) : sgn (92 :: d :: d' :: l) = .bad (d' :: l) := by
  simp only [sgn, if_true, h, h']
theorem sgn_92_yes {d d' : UInt8} {x y : Nat} (l : List UInt8) (h : hexV d = some x) (h' : hexV d' = some y) : sgn (92 :: d :: d' :: l) = .ok (16 * x + y) l := by
  simp only [sgn, if_true, h, h']
theorem sgn_fact (l : List UInt8) : SFact l (sgn l) := by
  match l with
  | [] => exact List.suffix_refl _
  | c :: l =>
    by_cases hc : c = 92
    · subst hc
      match l with
      | [] => rw [sgn_92_nil]; exact List.nil_suffix
      | [d] =>
        cases h1 : hexV d with
        | none => rw [sgn_92_no _ h1]; exact List.suffix_cons _ _
        | some x => rw [sgn_92_one h1]; exact List.nil_suffix
      | d :: d' :: l2 =>
        cases h1 : hexV d with
        | none => rw [sgn_92_no _ h1]; exact List.suffix_cons _ _
        | some x =>
          cases h2 : hexV d' with
          | none => rw [sgn_92_two _ h1 h2]; exact ⟨[92, d], rfl⟩
          | some y =>
            have a1 := hexV_lt h1
            have a2 := hexV_lt h2
            rw [sgn_92_yes _ h1 h2]
            exact ⟨by omega, ⟨[92, d, d'], rfl⟩, by simp only [List.length_cons]; omega⟩
    · rw [sgn_own c l hc]
      by_cases ho : ownB c = true
      · rw [if_pos ho]; exact ⟨c.toNat_lt, List.suffix_cons _ _, by simp⟩
      · rw [if_neg ho]; exact List.suffix_refl _
theorem sgn_ok {l l1 : List UInt8} {b : Nat} (h : sgn l = .ok b l1) : b < 256 ∧ l1 <:+ l ∧ l1.length < l.length := by
  have := sgn_fact l; rw [h] at this; exact this
theorem sgn_bad {l r : List UInt8} (h : sgn l = .bad r) : r <:+ l := by
  have := sgn_fact l; rw [h] at this; exact this
theorem rng_ok (a b : Nat) : (rngW a b).Ok := ofN_ok _
theorem rng_ne {b : Nat} (h : b < 256) : rngW b b ≠ Ws.nil := by
  intro e
  have h1 : (rngW b b).has b = true := by
    unfold rngW
    rw [has_ofN _ (by intro x hx; simp at hx; omega) b h]
    simp
  rw [e, Ws.has_nil] at h1
  cases h1
theorem ofS_wf {s : Ws} (h : s.Ok) : (ofS s).Wf ∧ (ofS s).size = 1 := by
  unfold ofS
  split
  · exact ⟨trivial, rfl⟩
  · rename_i hn
    exact ⟨⟨h, fun e => hn (sameW_iff.2 e)⟩, rfl⟩
def Fact (l : List UInt8) : PR → Prop
  | .ok e l1 => e.Wf ∧ l1 <:+ l ∧ l1.length < l.length ∧ e.size + 1 ≤ 2 * (l.length - l1.length)
  | .bad r => r <:+ l
theorem PCls.fact {out : Ws} {l : List UInt8} {r : PR} (h : PCls out l r) : out.Ok → Fact l r := by
  induction h with
  | done out l => exact fun ho => ⟨(ofS_wf ho).1, List.suffix_cons _ _, by simp, by rw [(ofS_wf ho).2]; simp only [List.length_cons]; omega⟩
  | bad1 _ h2 => exact fun _ => sgn_bad h2
  | @one out l b l1 res _ h2 _ _ ih =>
    intro ho
    obtain ⟨_, s1, s2⟩ := sgn_ok h2
    have k := ih (Ws.join_ok ho (rng_ok _ _))
    cases res with
    | ok e l' => exact ⟨k.1, k.2.1.trans s1, by have := k.2.2.1; omega, by have := k.2.2.2; omega⟩
    | bad r => exact List.IsSuffix.trans k s1
  | bad2 _ h2 h3 =>
    intro _
    obtain ⟨_, s1, _⟩ := sgn_ok h2
    exact (sgn_bad h3).trans ((List.suffix_cons _ _).trans s1)
  | less _ h2 _ _ =>
    intro _
    obtain ⟨_, s1, _⟩ := sgn_ok h2
    exact (List.suffix_cons _ _).trans s1
  | @range out l b l2 b' l3 res _ h2 h3 _ _ ih =>
    intro ho
    obtain ⟨_, s1, s2⟩ := sgn_ok h2
    obtain ⟨_, t1, t2⟩ := sgn_ok h3
    have k := ih (Ws.join_ok ho (rng_ok _ _))
    have q := t1.trans ((List.suffix_cons _ _).trans s1)
    simp only [List.length_cons] at s2
    cases res with
    | ok e l' => exact ⟨k.1, k.2.1.trans q, by have := k.2.2.1; omega, by have := k.2.2.2; omega⟩
    | bad r => exact List.IsSuffix.trans k q
theorem stars_fact : ∀ (l : List UInt8) (a e : Ex) (l' : List UInt8), stars a l = (e, l') → l' <:+ l ∧ (a.Wf → e.Wf) ∧ e.size = a.size + (l.length - l'.length)
  | [], a, e, l', h => by
    simp only [stars, Prod.mk.injEq] at h
    obtain ⟨rfl, rfl⟩ := h
    exact ⟨List.suffix_refl _, id, by simp⟩
  | c :: l, a, e, l', h => by
    unfold stars at h
    split at h
    · obtain ⟨h1, h2, h3⟩ := stars_fact l _ e l' h
      refine ⟨h1.trans (List.suffix_cons _ _), h2, ?_⟩
      have := h1.length_le
      rw [h3]; simp only [Ex.size, List.length_cons]; omega
    · simp only [Prod.mk.injEq] at h
      obtain ⟨rfl, rfl⟩ := h
      exact ⟨List.suffix_refl _, id, by simp⟩
theorem full_ne : Ws.full ≠ Ws.nil := by simp [Ws.full, Ws.nil]
theorem PX.fact {t : Tg} {l : List UInt8} {r : PR} (h : PX t l r) : Fact l r := by
  induction h with
  | dot l => exact ⟨⟨Ws.full_ok, full_ne⟩, List.suffix_cons _ _, by simp, by simp only [Ex.size, List.length_cons]; omega⟩
  | @cls l res hc =>
    have k := hc.fact Ws.nil_ok
    cases res with
    | ok e l' => exact ⟨k.1, k.2.1.trans (List.suffix_cons _ _), by have := k.2.2.1; simp only [List.length_cons]; omega, by have := k.2.2.2; simp only [List.length_cons]; omega⟩
    | bad r => exact List.IsSuffix.trans k (List.suffix_cons _ _)
  | eps l => exact ⟨trivial, ⟨[40, 41], rfl⟩, by simp only [List.length_cons]; omega, by simp only [Ex.size, List.length_cons]; omega⟩
  | round _ _ ih =>
    obtain ⟨k1, k2, k3, k4⟩ := ih
    simp only [List.length_cons] at k3 k4
    exact ⟨k1, (List.suffix_cons _ _).trans (k2.trans (List.suffix_cons _ _)), by simp only [List.length_cons]; omega, by simp only [List.length_cons]; omega⟩
  | roundNo _ _ _ ih => exact ih.2.1.trans (List.suffix_cons _ _)
  | roundBad _ _ ih => exact List.IsSuffix.trans ih (List.suffix_cons _ _)
  | sign _ _ _ h4 =>
    obtain ⟨s0, s1, s2⟩ := sgn_ok h4
    exact ⟨⟨rng_ok _ _, rng_ne s0⟩, s1, s2, by simp only [Ex.size]; omega⟩
  | signBad _ _ _ h4 => exact sgn_bad h4
  | rowBad _ ih => exact ih
  | rowOne _ h2 _ ih =>
    obtain ⟨k1, k2, k3, k4⟩ := ih
    obtain ⟨s1, s2, s3⟩ := stars_fact _ _ _ _ h2
    have := s1.length_le
    exact ⟨s2 k1, s1.trans k2, by omega, by omega⟩
  | rowMore _ h2 _ _ ih ih2 =>
    obtain ⟨k1, k2, k3, k4⟩ := ih
    obtain ⟨s1, s2, s3⟩ := stars_fact _ _ _ _ h2
    obtain ⟨q1, q2, q3, q4⟩ := ih2
    have := s1.length_le
    exact ⟨⟨s2 k1, q1⟩, q2.trans (s1.trans k2), by omega, by simp only [Ex.size]; omega⟩
  | rowMoreBad _ h2 _ _ ih ih2 =>
    obtain ⟨k1, k2, k3, k4⟩ := ih
    obtain ⟨s1, s2, s3⟩ := stars_fact _ _ _ _ h2
    exact List.IsSuffix.trans ih2 (s1.trans k2)
  | altBad _ ih => exact ih
  | altOne _ _ ih => exact ih
  | altMore _ _ ih ih2 =>
    obtain ⟨k1, k2, k3, k4⟩ := ih
    obtain ⟨q1, q2, q3, q4⟩ := ih2
    simp only [List.length_cons] at k3 k4
    exact ⟨⟨k1, q1⟩, q2.trans ((List.suffix_cons _ _).trans k2), by omega, by simp only [Ex.size]; omega⟩
  | altMoreBad _ _ ih ih2 => exact List.IsSuffix.trans ih2 ((List.suffix_cons _ _).trans ih.2.1)
end Go.Proofs.Ytiegejbbjlhpdaa
/- Lemmas of mine. -/
namespace Go.Proofs.Ytiegejbbjlhpdaa
def tl (s : ByteArray) (i : Nat) : List UInt8 := s.data.toList.drop i
theorem tl_cons (s : ByteArray) (i : Nat) (h : i < s.size) : tl s i = s[i] :: tl s (i + 1) := by
  unfold tl
  have h' : i < s.data.toList.length := by simpa using h
  rw [List.drop_eq_getElem_cons h']
  rfl
theorem tl_nil (s : ByteArray) (i : Nat) (h : s.size ≤ i) : tl s i = [] := List.drop_eq_nil_of_le (by simpa using h)
theorem tl_len (s : ByteArray) (i : Nat) : (tl s i).length = s.size - i := by
  unfold tl
  rw [List.length_drop]; simp
theorem tl_suffix {s : ByteArray} {i : Nat} {l : List UInt8} (h : l <:+ tl s i) : l = tl s (s.size - l.length) ∧ l.length ≤ s.size := by
  have h1 : l <:+ s.data.toList := h.trans (List.drop_suffix _ _)
  have h2 : s.data.toList.length = s.size := by simp
  have h3 := h1.length_le
  rw [h2] at h3
  refine ⟨?_, h3⟩
  unfold tl
  rw [List.suffix_iff_eq_drop.1 h1, h2]
  rw [List.length_drop, h2]
  congr 1
  omega
end Go.Proofs.Ytiegejbbjlhpdaa
/- Lemmas of mine. -/
namespace Go.Proofs.Ytiegejbbjlhpdaa
theorem notAt_or (c : UInt8) (l : List UInt8) : NotAt c l ∨ ∃ t, l = c :: t := by
  cases l with
  | nil => exact .inl (fun t e => by cases e)
  | cons d t =>
    by_cases h : d = c
    · exact .inr ⟨t, by rw [h]⟩
    · exact .inl (fun u e => by simp at e; exact h e.1)
theorem PCls.total : ∀ (n : Nat) (out : Ws) (l : List UInt8), l.length ≤ n → ∃ r, PCls out l r
  | n, out, l, hn => by
    rcases notAt_or 93 l with h93 | ⟨t, rfl⟩
    · cases hs : sgn l with
      | bad r => exact ⟨_, .bad1 h93 hs⟩
      | ok b l1 =>
        have h1 := (sgn_ok hs).2.2
        match n, hn with
        | 0, hn => omega
        | n + 1, hn =>
          rcases notAt_or 45 l1 with h45 | ⟨l2, rfl⟩
          · obtain ⟨r, hr⟩ := PCls.total n (out.join (rngW b b)) l1 (by omega)
            exact ⟨r, .one h93 hs h45 hr⟩
          · cases hs2 : sgn l2 with
            | bad r => exact ⟨_, .bad2 h93 hs hs2⟩
            | ok b' l3 =>
              have h2 := (sgn_ok hs2).2.2
              simp only [List.length_cons] at h1
              by_cases hb : b' < b
              · exact ⟨_, .less h93 hs hs2 hb⟩
              · obtain ⟨r, hr⟩ := PCls.total n (out.join (rngW b b')) l3 (by omega)
                exact ⟨r, .range h93 hs hs2 (by omega) hr⟩
    · exact ⟨_, .done out t⟩
theorem PX.total : ∀ (n : Nat) (l : List UInt8), l.length ≤ n → (∃ r, PX .atom l r) ∧ (∃ r, PX .row l r) ∧ ∃ r, PX .alt l r
  | n, l, hn => by
    have hA : ∃ r, PX .atom l r := by
      rcases notAt_or 46 l with h46 | ⟨t, rfl⟩
      · rcases notAt_or 91 l with h91 | ⟨t, rfl⟩
        · rcases notAt_or 40 l with h40 | ⟨t, rfl⟩
          · cases hs : sgn l with
            | bad r => exact ⟨_, .signBad h46 h91 h40 hs⟩
            | ok b l1 => exact ⟨_, .sign h46 h91 h40 hs⟩
          · rcases notAt_or 41 t with h41 | ⟨u, rfl⟩
            · match n, hn with
              | 0, hn => simp at hn
              | n + 1, hn =>
                obtain ⟨r, hr⟩ := (PX.total n t (by simpa using hn)).2.2
                cases r with
                | bad r => exact ⟨_, .roundBad h41 hr⟩
                | ok e l1 =>
                  rcases notAt_or 41 l1 with k | ⟨u, rfl⟩
                  · exact ⟨_, .roundNo h41 hr k⟩
                  · exact ⟨_, .round h41 hr⟩
            · exact ⟨_, .eps u⟩
        · obtain ⟨r, hr⟩ := PCls.total _ Ws.nil t (Nat.le_refl _)
          exact ⟨r, .cls hr⟩
      · exact ⟨_, .dot t⟩
    have hR : ∃ r, PX .row l r := by
      obtain ⟨r, hr⟩ := hA
      cases r with
      | bad r => exact ⟨_, .rowBad hr⟩
      | ok a l1 =>
        have f := hr.fact
        cases hs : stars a l1 with
        | mk p l2 =>
          have hs' := (stars_fact _ _ _ _ hs).1.length_le
          cases hb : begB l2 with
          | false => exact ⟨_, .rowOne hr hs hb⟩
          | true =>
            match n, hn with
            | 0, hn => have := f.2.2.1; omega
            | n + 1, hn =>
              obtain ⟨q, hq⟩ := (PX.total n l2 (by have := f.2.2.1; omega)).2.1
              cases q with
              | bad r => exact ⟨_, .rowMoreBad hr hs hb hq⟩
              | ok e l3 => exact ⟨_, .rowMore hr hs hb hq⟩
    refine ⟨hA, hR, ?_⟩
    obtain ⟨r, hr⟩ := hR
    cases r with
    | bad r => exact ⟨_, .altBad hr⟩
    | ok e l1 =>
      have f := hr.fact
      rcases notAt_or 124 l1 with h | ⟨t, rfl⟩
      · exact ⟨_, .altOne hr h⟩
      · match n, hn with
        | 0, hn => have := f.2.2.1; omega
        | n + 1, hn =>
          obtain ⟨q, hq⟩ := (PX.total n t (by have := f.2.2.1; simp only [List.length_cons] at this; omega)).2.2
          cases q with
          | bad r => exact ⟨_, .altMoreBad hr hq⟩
          | ok g l3 => exact ⟨_, .altMore hr hq⟩
end Go.Proofs.Ytiegejbbjlhpdaa
/- Lemmas of mine. -/
namespace Go.Proofs.Ytiegejbbjlhpdaa
def foldE (f : Ex → Ex → Ex) : List Ex → Ex
  | [] => .eps
  | [e] => e
  | e :: e' :: l => f e (foldE f (e' :: l))
theorem foldE_snoc (f : Ex → Ex → Ex) : ∀ (ps : List Ex) (p e : Ex), foldE f (ps ++ [p] ++ [e]) = foldE f (ps ++ [f p e])
  | [], p, e => rfl
  | [q], p, e => rfl
  | q :: q' :: ps, p, e => by
    have ih := foldE_snoc f (q' :: ps) p e
    show f q (foldE f (q' :: ps ++ [p] ++ [e])) = f q (foldE f (q' :: ps ++ [f p e]))
    rw [ih]
def RowSt (l0 : List UInt8) (ps : List Ex) (l : List UInt8) : Prop :=
  ((ps = [] ∨ begB l = true) → (∀ e l', PX .row l (.ok e l') → PX .row l0 (.ok (foldE .seq (ps ++ [e])) l')) ∧ (∀ r, PX .row l (.bad r) → PX .row l0 (.bad r))) ∧
  (ps ≠ [] → begB l = false → PX .row l0 (.ok (foldE .seq ps) l))
theorem RowSt.start (l : List UInt8) : RowSt l [] l := ⟨fun _ => ⟨fun _ _ h => h, fun _ h => h⟩, fun h => absurd rfl h⟩
theorem RowSt.step {l0 l l1 l2 : List UInt8} {ps : List Ex} {a p : Ex} (h : RowSt l0 ps l) (hc : ps = [] ∨ begB l = true) (ha : PX .atom l (.ok a l1)) (hs : stars a l1 = (p, l2)) : RowSt l0 (ps ++ [p]) l2 := by
  obtain ⟨h1, h2⟩ := h.1 hc
  refine ⟨fun hc2 => ?_, fun _ hb => h1 _ _ (PX.rowOne ha hs hb)⟩
  have hb : begB l2 = true := by
    rcases hc2 with e | e
    · simp at e
    · exact e
  refine ⟨fun e l' he => ?_, fun r hr => h2 _ (PX.rowMoreBad ha hs hb hr)⟩
  rw [foldE_snoc]
  exact h1 _ _ (PX.rowMore ha hs hb he)
theorem RowSt.bad {l0 l r : List UInt8} {ps : List Ex} (h : RowSt l0 ps l) (hc : ps = [] ∨ begB l = true) (ha : PX .atom l (.bad r)) : PX .row l0 (.bad r) := (h.1 hc).2 _ (PX.rowBad ha)
def AltSt (l0 : List UInt8) (ps : List Ex) (l : List UInt8) : Prop :=
  (∀ e l', PX .alt l (.ok e l') → PX .alt l0 (.ok (foldE .alt (ps ++ [e])) l')) ∧ (∀ r, PX .alt l (.bad r) → PX .alt l0 (.bad r))
theorem AltSt.start (l : List UInt8) : AltSt l [] l := ⟨fun _ _ h => h, fun _ h => h⟩
theorem AltSt.step {l0 l l1 : List UInt8} {ps : List Ex} {e : Ex} (h : AltSt l0 ps l) (hr : PX .row l (.ok e (124 :: l1))) : AltSt l0 (ps ++ [e]) l1 :=
  ⟨fun f l' hf => by rw [foldE_snoc]; exact h.1 _ _ (PX.altMore hr hf), fun r hb => h.2 _ (PX.altMoreBad hr hb)⟩
theorem AltSt.last {l0 l l1 : List UInt8} {ps : List Ex} {e : Ex} (h : AltSt l0 ps l) (hr : PX .row l (.ok e l1)) (hn : NotAt 124 l1) : PX .alt l0 (.ok (foldE .alt (ps ++ [e])) l1) := h.1 _ _ (PX.altOne hr hn)
theorem AltSt.bad {l0 l r : List UInt8} {ps : List Ex} (h : AltSt l0 ps l) (hr : PX .row l (.bad r)) : PX .alt l0 (.bad r) := h.2 _ (PX.altBad hr)
end Go.Proofs.Ytiegejbbjlhpdaa
/- Lemmas of mine. -/
namespace Go.Proofs.Ytiegejbbjlhpdaa
theorem notAt_cons {c d : UInt8} {l : List UInt8} (h : d ≠ c) : NotAt c (d :: l) := by
  intro t e
  simp at e
  exact h e.1
theorem notAt_nil (c : UInt8) : NotAt c [] := by intro t e; cases e
theorem ofS_ne {s : Ws} (h : s ≠ Ws.nil) : ofS s = .cls s := by
  unfold ofS
  rw [if_neg (fun e => h (sameW_iff.1 e))]
open Go.RowKit
inductive RD where
  | ok (e : Ex)
  | no (at_ err : Nat)
def topR (n : Nat) (res : PR) : RD := if 65536 < n then .no 0 3 else match res with
  | .bad r => .no (n - r.length) 2
  | .ok e l => if l = [] then (if e.size ≤ 2000 then .ok e else .no 0 4) else .no (n - l.length) 2
def zeroRe : Value := .agg #[.int .u8 0, .int .u64 0, .int .u64 0, .int .u64 0, .int .u64 0, .slice none 0 0]
def RdPost (w : World) (rd : RD) (e : Ending) (w' : World) : Prop := Below w.heap.size w w' ∧ match rd with
  | .ok ex => ∃ v, e = .returned (.tuple #[v, .int .i64 0, .int .i64 0]) ∧ ReAt (New w.heap.size) w' v ex.rx
  | .no k err => e = .returned (.tuple #[zeroRe, .int .i64 (k : Int), .int .i64 (err : Int)])
open Go.RowKit
theorem al2 (w : World) (X Y : Obj) : Below w.heap.size w ((w.alloc X).alloc Y) := ((Below.refl _ w).alloc (Nat.le_refl _) _).alloc (by simp) _
theorem six_keep {w x : World} {b off : Nat} {x0 x1 x2 x3 x4 x5 : Value} (hb : b < w.heap.size) (h : w.cell? ⟨b, off, none⟩ = some x0 ∧ w.cell? ⟨b, off + 1, none⟩ = some x1 ∧ w.cell? ⟨b, off + 2, none⟩ = some x2 ∧ w.cell? ⟨b, off + 3, none⟩ = some x3 ∧ w.cell? ⟨b, off + 4, none⟩ = some x4 ∧ w.cell? ⟨b, off + 5, none⟩ = some x5) (hx : Below w.heap.size w x) :
    x.cell? ⟨b, off, none⟩ = some x0 ∧ x.cell? ⟨b, off + 1, none⟩ = some x1 ∧ x.cell? ⟨b, off + 2, none⟩ = some x2 ∧ x.cell? ⟨b, off + 3, none⟩ = some x3 ∧ x.cell? ⟨b, off + 4, none⟩ = some x4 ∧ x.cell? ⟨b, off + 5, none⟩ = some x5 := by
  obtain ⟨d0, d1, d2, d3, d4, d5⟩ := h
  have e := fun o => hx.cell (p := ⟨b, o, none⟩) hb
  exact ⟨by rw [e]; exact d0, by rw [e]; exact d1, by rw [e]; exact d2, by rw [e]; exact d3, by rw [e]; exact d4, by rw [e]; exact d5⟩
end Go.Proofs.Ytiegejbbjlhpdaa
/- Lemmas of mine. -/
namespace Go.Proofs.Ytiegejbbjlhpdaa
structure Lv where
  rows : List Ex
  parts : List Ex
theorem stars_stop (p : Ex) {l : List UInt8} (h : NotAt 42 l) : stars p l = (p, l) := by
  cases l with
  | nil => rfl
  | cons c t =>
    have hc : ¬ c = 42 := fun e => h t (by rw [e])
    simp only [stars, if_neg hc]
theorem stars_42 (p : Ex) (l : List UInt8) : stars p (42 :: l) = stars (.star p) l := by simp only [stars, if_true]
theorem beg_not {l : List UInt8} (h : begB l = true) : NotAt 42 l ∧ NotAt 41 l ∧ NotAt 124 l := by
  refine ⟨fun t e => ?_, fun t e => ?_, fun t e => ?_⟩ <;> (subst e; revert h; simp only [begB]; decide)
theorem atom_beg {l l1 : List UInt8} {a : Ex} (h : PX .atom l (.ok a l1)) : begB l = true := by
  cases h with
  | dot => rfl
  | cls => rfl
  | eps => rfl
  | round => rfl
  | sign h1 h2 h3 h4 =>
    cases l with
    | nil => simp [sgn] at h4
    | cons c t =>
      by_cases hc : c = 92
      · subst hc; rfl
      · rw [sgn_own c t hc] at h4
        by_cases ho : ownB c = true
        · simp [begB, ho]
        · rw [if_neg ho] at h4; cases h4
def RowM (m : List UInt8) (parts : List Ex) (l : List UInt8) : Prop :=
  (parts = [] ∧ m = l) ∨ ∃ ps p a l' l1, parts = ps ++ [p] ∧ RowSt m ps l' ∧ (ps = [] ∨ begB l' = true) ∧ PX .atom l' (.ok a l1) ∧ stars a l1 = stars p l
theorem RowM.st {m l : List UInt8} {parts : List Ex} (h : RowM m parts l) (h42 : NotAt 42 l) : RowSt m parts l := by
  rcases h with ⟨rfl, rfl⟩ | ⟨ps, p, a, l', l1, rfl, hst, hc, ha, hs⟩
  · exact RowSt.start _
  · exact hst.step hc ha (by rw [hs, stars_stop p h42])
theorem RowM.add {m l l1 : List UInt8} {parts : List Ex} {a : Ex} (h : RowM m parts l) (ha : PX .atom l (.ok a l1)) : RowM m (parts ++ [a]) l1 :=
  .inr ⟨parts, a, a, l, l1, rfl, h.st (beg_not (atom_beg ha)).1, .inr (atom_beg ha), ha, rfl⟩
theorem RowM.star {m l : List UInt8} {ps : List Ex} {p : Ex} (h : RowM m (ps ++ [p]) (42 :: l)) : RowM m (ps ++ [.star p]) l := by
  rcases h with ⟨e, _⟩ | ⟨ps', p', a, l', l1, e, hst, hc, ha, hs⟩
  · simp at e
  · obtain ⟨rfl, e⟩ := List.append_inj' e rfl
    simp at e
    subst e
    exact .inr ⟨ps, _, a, l', l1, rfl, hst, hc, ha, by rw [hs, stars_42]⟩
def LvSt (m0 : List UInt8) (lv : Lv) (l : List UInt8) : Prop :=
  (∃ m, AltSt m0 lv.rows m ∧ RowM m lv.parts l ∧ (lv.rows = [] → m = m0)) ∧ ((lv.rows = [] ∧ lv.parts = []) ∨ NotAt 41 m0)
theorem LvSt.empty {m0 l : List UInt8} {lv : Lv} (h : LvSt m0 lv l) (hr : lv.rows = []) (hp : lv.parts = []) : m0 = l := by
  obtain ⟨⟨m, _, h2, h3⟩, _⟩ := h
  rcases h2 with ⟨_, e⟩ | ⟨ps, p, a, l', l1, e, _⟩
  · rw [← h3 hr, e]
  · rw [hp] at e; simp at e
theorem LvSt.start (l : List UInt8) : LvSt l ⟨[], []⟩ l := ⟨⟨l, AltSt.start _, .inl ⟨rfl, rfl⟩, fun _ => rfl⟩, .inl ⟨rfl, rfl⟩⟩
theorem LvSt.add {m0 l l1 : List UInt8} {lv : Lv} {a : Ex} (h : LvSt m0 lv l) (ha : PX .atom l (.ok a l1)) : LvSt m0 ⟨lv.rows, lv.parts ++ [a]⟩ l1 := by
  have h' := h
  obtain ⟨⟨m, h1, h2, h3⟩, h4⟩ := h
  refine ⟨⟨m, h1, h2.add ha, h3⟩, .inr ?_⟩
  rcases h4 with ⟨e1, e2⟩ | h4
  · rw [h'.empty e1 e2]; exact (beg_not (atom_beg ha)).2.1
  · exact h4
theorem LvSt.star {m0 l : List UInt8} {rows ps : List Ex} {p : Ex} (h : LvSt m0 ⟨rows, ps ++ [p]⟩ (42 :: l)) : LvSt m0 ⟨rows, ps ++ [.star p]⟩ l := by
  obtain ⟨⟨m, h1, h2, h3⟩, h4⟩ := h
  refine ⟨⟨m, h1, h2.star, h3⟩, .inr ?_⟩
  rcases h4 with ⟨_, e⟩ | h4
  · simp at e
  · exact h4
theorem LvSt.row {m0 l : List UInt8} {lv : Lv} (h : LvSt m0 lv l) (hp : lv.parts ≠ []) (h42 : NotAt 42 l) (hb : begB l = false) :
    NotAt 41 m0 ∧ ∃ m, AltSt m0 lv.rows m ∧ PX .row m (.ok (foldE .seq lv.parts) l) := by
  obtain ⟨⟨m, h1, h2, h3⟩, h4⟩ := h
  refine ⟨?_, m, h1, (h2.st h42).2 hp hb⟩
  rcases h4 with ⟨_, e⟩ | h4
  · exact absurd e hp
  · exact h4
theorem beg_124 (l : List UInt8) : begB (124 :: l) = false := by simp only [begB]; decide
theorem beg_41 (l : List UInt8) : begB (41 :: l) = false := by simp only [begB]; decide
theorem LvSt.bar {m0 l : List UInt8} {lv : Lv} (h : LvSt m0 lv (124 :: l)) (hp : lv.parts ≠ []) : LvSt m0 ⟨lv.rows ++ [foldE .seq lv.parts], []⟩ l := by
  obtain ⟨h4, m, h1, h2⟩ := h.row hp (notAt_cons (by decide)) (beg_124 l)
  exact ⟨⟨l, h1.step h2, .inl ⟨rfl, rfl⟩, fun e => by simp at e⟩, .inr h4⟩
theorem LvSt.done {m0 l : List UInt8} {lv : Lv} (h : LvSt m0 lv l) (hp : lv.parts ≠ []) (h42 : NotAt 42 l) (hb : begB l = false) (h124 : NotAt 124 l) : NotAt 41 m0 ∧ PX .alt m0 (.ok (foldE .alt (lv.rows ++ [foldE .seq lv.parts])) l) := by
  obtain ⟨h4, m, h1, h2⟩ := h.row hp h42 hb
  exact ⟨h4, h1.last h2 h124⟩
theorem LvSt.bad {m0 l r : List UInt8} {lv : Lv} (h : LvSt m0 lv l) (ha : PX .atom l (.bad r)) (hc : lv.parts = [] ∨ begB l = true) : PX .alt m0 (.bad r) := by
  obtain ⟨⟨m, h1, h2, h3⟩, h4⟩ := h
  rcases hc with hc | hc
  · rcases h2 with ⟨_, rfl⟩ | ⟨ps, p, a, l', l1, e, _⟩
    · exact h1.bad (PX.rowBad ha)
    · rw [hc] at e; simp at e
  · exact h1.bad ((h2.st (beg_not hc).1).bad (.inr hc) ha)
inductive StkSt (l0 : List UInt8) : List Lv → Lv → List UInt8 → Prop
  | base {lv : Lv} {l : List UInt8} : LvSt l0 lv l → StkSt l0 [] lv l
  | push {low : List Lv} {lv lv' : Lv} {l m0 : List UInt8} : StkSt l0 low lv' (40 :: m0) → LvSt m0 lv l → StkSt l0 (low ++ [lv']) lv l
theorem StkSt.start (l : List UInt8) : StkSt l [] ⟨[], []⟩ l := .base (LvSt.start l)
theorem StkSt.open {l0 l : List UInt8} {low : List Lv} {lv : Lv} (h : StkSt l0 low lv (40 :: l)) : StkSt l0 (low ++ [lv]) ⟨[], []⟩ l := .push h (LvSt.start l)
theorem StkSt.turn {l0 l l' : List UInt8} {low : List Lv} {lv lv' : Lv} (h : StkSt l0 low lv l) (hi : ∀ m0, LvSt m0 lv l → LvSt m0 lv' l') : StkSt l0 low lv' l' := by
  cases h with
  | base h => exact .base (hi _ h)
  | push h1 h2 => exact .push h1 (hi _ h2)
theorem StkSt.add {l0 l l1 : List UInt8} {low : List Lv} {lv : Lv} {a : Ex} (h : StkSt l0 low lv l) (ha : PX .atom l (.ok a l1)) : StkSt l0 low ⟨lv.rows, lv.parts ++ [a]⟩ l1 := h.turn fun _ k => k.add ha
theorem StkSt.star {l0 l : List UInt8} {low : List Lv} {rows ps : List Ex} {p : Ex} (h : StkSt l0 low ⟨rows, ps ++ [p]⟩ (42 :: l)) : StkSt l0 low ⟨rows, ps ++ [.star p]⟩ l := h.turn fun _ k => k.star
theorem StkSt.bar {l0 l : List UInt8} {low : List Lv} {lv : Lv} (h : StkSt l0 low lv (124 :: l)) (hp : lv.parts ≠ []) : StkSt l0 low ⟨lv.rows ++ [foldE .seq lv.parts], []⟩ l := h.turn fun _ k => k.bar hp
theorem snoc_inj {α : Type} {a b : List α} {x y : α} (h : a ++ [x] = b ++ [y]) : a = b ∧ x = y := by
  obtain ⟨h1, h2⟩ := List.append_inj' h rfl
  simp at h2
  exact ⟨h1, h2⟩
theorem StkSt.pop {l0 l : List UInt8} {low : List Lv} {lv lv' : Lv} (h : StkSt l0 (low ++ [lv']) lv l) : ∃ m0, StkSt l0 low lv' (40 :: m0) ∧ LvSt m0 lv l := by
  generalize hq : low ++ [lv'] = q at h
  cases h with
  | base => simp at hq
  | push h1 h2 =>
    obtain ⟨rfl, rfl⟩ := snoc_inj hq
    exact ⟨_, h1, h2⟩
theorem StkSt.close {l0 l : List UInt8} {low : List Lv} {lv lv' : Lv} (h : StkSt l0 (low ++ [lv']) lv (41 :: l)) (hp : lv.parts ≠ []) : StkSt l0 low ⟨lv'.rows, lv'.parts ++ [foldE .alt (lv.rows ++ [foldE .seq lv.parts])]⟩ l := by
  obtain ⟨m0, h1, h2⟩ := h.pop
  obtain ⟨h3, h4⟩ := h2.done hp (notAt_cons (by decide)) (beg_41 l) (notAt_cons (by decide))
  exact h1.add (PX.round h3 h4)
theorem StkSt.closeE {l0 l : List UInt8} {low : List Lv} {lv lv' : Lv} (h : StkSt l0 (low ++ [lv']) lv (41 :: l)) (hr : lv.rows = []) (hp : lv.parts = []) : StkSt l0 low ⟨lv'.rows, lv'.parts ++ [.eps]⟩ l := by
  obtain ⟨m0, h1, h2⟩ := h.pop
  obtain rfl := h2.empty hr hp
  exact h1.add (PX.eps l)
theorem StkSt.atomBad {l0 l r : List UInt8} {low : List Lv} {lv : Lv} (h : StkSt l0 low lv l) : PX .atom l (.bad r) → (lv.parts = [] ∨ begB l = true) → (NotAt 41 l ∨ low = [] ∨ ¬(lv.rows = [] ∧ lv.parts = [])) → PX .alt l0 (.bad r) := by
  induction h with
  | base h => intro ha hc _; exact h.bad ha hc
  | @push low lv lv' l m0 h1 h2 ih =>
    intro ha hc hn
    have hb := h2.bad ha hc
    have h41 : NotAt 41 m0 := by
      rcases h2.2 with ⟨e1, e2⟩ | h4
      · rcases hn with hn | hn | hn
        · rw [h2.empty e1 e2]; exact hn
        · simp at hn
        · exact absurd ⟨e1, e2⟩ hn
      · exact h4
    exact ih (PX.roundBad h41 hb) (.inr rfl) (.inl (notAt_cons (by decide)))
def Ref (l0 r : List UInt8) : Prop := PX .alt l0 (.bad r) ∨ ∃ e, r ≠ [] ∧ PX .alt l0 (.ok e r)
theorem StkSt.ended {l0 l : List UInt8} {low : List Lv} {lv : Lv} (h : StkSt l0 low lv l) (hp : lv.parts ≠ []) (h42 : NotAt 42 l) (hb : begB l = false) (h124 : NotAt 124 l) (hl : (low = [] ∧ l ≠ []) ∨ (low ≠ [] ∧ NotAt 41 l)) : Ref l0 l := by
  cases h with
  | base h =>
    obtain ⟨_, h4⟩ := h.done hp h42 hb h124
    rcases hl with ⟨_, h5⟩ | ⟨h5, _⟩
    · exact .inr ⟨_, h5, h4⟩
    · exact absurd rfl h5
  | push h1 h2 =>
    obtain ⟨h3, h4⟩ := h2.done hp h42 hb h124
    rcases hl with ⟨h5, _⟩ | ⟨_, h5⟩
    · simp at h5
    · exact .inl (h1.atomBad (PX.roundNo h3 h4 h5) (.inr rfl) (.inl (notAt_cons (by decide))))
theorem StkSt.signBad {l0 l r : List UInt8} {low : List Lv} {lv : Lv} (h : StkSt l0 low lv l) (hne : l ≠ []) (h46 : NotAt 46 l) (h91 : NotAt 91 l) (h40 : NotAt 40 l) (h41 : NotAt 41 l) (h42 : NotAt 42 l) (h124 : NotAt 124 l) (hs : sgn l = .bad r) : Ref l0 r := by
  by_cases hc : lv.parts = [] ∨ begB l = true
  · exact .inl (h.atomBad (PX.signBad h46 h91 h40 hs) hc (.inl h41))
  · have h1 : lv.parts ≠ [] := fun e => hc (.inl e)
    have h2 : begB l = false := by
      cases hb : begB l with
      | false => rfl
      | true => exact absurd (.inr hb) hc
    have : r = l := by
      cases l with
      | nil => exact absurd rfl hne
      | cons c t =>
        have hc92 : c ≠ 92 := fun e => by subst e; cases h2
        rw [sgn_own c t hc92] at hs
        have ho : ¬ ownB c = true := fun e => by simp [begB, e] at h2
        rw [if_neg ho] at hs
        cases hs; rfl
    subst this
    refine h.ended h1 h42 h2 h124 ?_
    by_cases hl : low = []
    · exact .inl ⟨hl, hne⟩
    · exact .inr ⟨hl, h41⟩
theorem sgn_bad_cons (c : UInt8) (l : List UInt8) (h : c ≠ 92) (ho : ownB c = false) : sgn (c :: l) = .bad (c :: l) := by
  rw [sgn_own c l h, ho]; rfl
theorem StkSt.bare {l0 l : List UInt8} {low : List Lv} {lv : Lv} (h : StkSt l0 low lv l) (hp : lv.parts = []) (h46 : NotAt 46 l) (h91 : NotAt 91 l) (h40 : NotAt 40 l) (hs : sgn l = .bad l) (hn : NotAt 41 l ∨ low = [] ∨ lv.rows ≠ []) : Ref l0 l :=
  .inl (h.atomBad (PX.signBad h46 h91 h40 hs) (.inl hp) (by
    rcases hn with hn | hn | hn
    · exact .inl hn
    · exact .inr (.inl hn)
    · exact .inr (.inr fun e => hn e.1)))
open Go.RowKit
def OwnO (ok : Nat → Prop) (n g b : Nat) : Prop := (ok b ∧ b < n) ∨ (n + 1 ≤ b ∧ b ≠ g)
def rchInv (ok : Nat → Prop) (k o : Nat) (l : List Rx) (w : World) (g : Nat) (y : Value) (wr : World) : Prop := ∃ (j : Nat) (v : Value) (x0 x1 x2 x3 x4 : Int) (al : Option Addr) (n cap : Nat), j < l.length ∧ y = .int .i64 ((j : Int) - 1) ∧
  v = .agg #[.int .u8 x0, .int .u64 x1, .int .u64 x2, .int .u64 x3, .int .u64 x4, .slice al n cap] ∧
  wr.heap[g]? = some (.cells #[.int .u8 x0, .int .u64 x1, .int .u64 x2, .int .u64 x3, .int .u64 x4, .slice al n cap] 27) ∧ wr.heap[w.heap.size]? = some nilBlk ∧
  ReAt (OwnO ok w.heap.size g) wr v (foldR k o (l.drop j)) ∧ Below w.heap.size w wr
theorem rch_step {ok : Nat → Prop} {n0 g k : Nat} {w wr : World} {z0 z1 z2 z3 z4 z5 y0 y1 y2 y3 y4 y5 : Value} {r t : Rx} (hk : k < 256) (hn0 : n0 + 1 ≤ g)
    (hG : wr.heap[g]? = some (.cells #[y0, y1, y2, y3, y4, y5] 27)) (hN : wr.heap[n0]? = some nilBlk) (hv : ReAt (OwnO ok n0 g) wr (.agg #[y0, y1, y2, y3, y4, y5]) t)
    (hv2 : ReAt (OwnO ok n0 g) wr (.agg #[z0, z1, z2, z3, z4, z5]) r) (hb : Below n0 w wr) :
    (chainW wr g k z0 z1 z2 z3 z4 z5 y0 y1 y2 y3 y4 y5).heap[g]? = some (.cells #[.int .u8 k, .int .u64 0, .int .u64 0, .int .u64 0, .int .u64 0, .slice (some ⟨wr.heap.size, 0, none⟩) 2 2] 27) ∧
    (chainW wr g k z0 z1 z2 z3 z4 z5 y0 y1 y2 y3 y4 y5).heap[n0]? = some nilBlk ∧
    ReAt (OwnO ok n0 g) (chainW wr g k z0 z1 z2 z3 z4 z5 y0 y1 y2 y3 y4 y5) (.agg #[.int .u8 k, .int .u64 0, .int .u64 0, .int .u64 0, .int .u64 0, .slice (some ⟨wr.heap.size, 0, none⟩) 2 2]) (.node k Ws.nil [r, t]) ∧
    Below n0 w (chainW wr g k z0 z1 z2 z3 z4 z5 y0 y1 y2 y3 y4 y5) := by
  have hg : g < wr.heap.size := (Array.getElem?_eq_some_iff.1 hG).1
  have hsz := putW_size wr g (.int .u8 k) (.int .u64 0) (.int .u64 0) (.int .u64 0) (.int .u64 0) (.slice (some ⟨wr.heap.size, 0, none⟩) 2 2)
  have hold : ∀ b, b < wr.heap.size → b ≠ g → (chainW wr g k z0 z1 z2 z3 z4 z5 y0 y1 y2 y3 y4 y5).heap[b]? = wr.heap[b]? := fun b h1 h2 =>
    (Below.heap_alloc _ _ _ (by rw [hsz]; exact h1)).trans (putW_other _ _ _ _ _ _ _ _ h2)
  have hsize : wr.heap.size ≤ (chainW wr g k z0 z1 z2 z3 z4 z5 y0 y1 y2 y3 y4 y5).heap.size := by
    unfold chainW; rw [World.size_alloc, hsz]; omega
  have hkept : Kept (OwnO ok n0 g) (OwnO ok n0 g) wr (chainW wr g k z0 z1 z2 z3 z4 z5 y0 y1 y2 y3 y4 y5) := ⟨hsize, fun b h1 h2 => ⟨h2, hold b h1 (by
    rcases h2 with h2 | h2
    · omega
    · exact h2.2)⟩⟩
  refine ⟨(Below.heap_alloc _ _ _ (by rw [hsz]; omega)).trans (putR hG _ _ _ _ _ _), (hold n0 (by omega) (by omega)).trans hN, ?_, ?_⟩
  · exact ⟨hk, Ws.nil_ok, _, _, rfl, Nat.le_refl _, by simp, row_two (blk_at _ _ hsz.symm) (.inr (by omega)) (hv2.go hkept) (hv.go hkept)⟩
  · exact (putB hb (by omega : n0 ≤ g) _ _ _ _ _ _).alloc (by rw [hsz]; omega) _
theorem drew_hp (w : World) : w.drew.heap = w.heap := rfl
theorem rch_stepD {ok : Nat → Prop} {n0 g k : Nat} {w wr : World} {z0 z1 z2 z3 z4 z5 y0 y1 y2 y3 y4 y5 : Value} {r t : Rx} (hk : k < 256) (hn0 : n0 + 1 ≤ g)
    (hG : wr.heap[g]? = some (.cells #[y0, y1, y2, y3, y4, y5] 27)) (hN : wr.heap[n0]? = some nilBlk) (hv : ReAt (OwnO ok n0 g) wr (.agg #[y0, y1, y2, y3, y4, y5]) t)
    (hv2 : ReAt (OwnO ok n0 g) wr (.agg #[z0, z1, z2, z3, z4, z5]) r) (hb : Below n0 w wr) :
    (chainW wr g k z0 z1 z2 z3 z4 z5 y0 y1 y2 y3 y4 y5).drew.heap[g]? = some (.cells #[.int .u8 k, .int .u64 0, .int .u64 0, .int .u64 0, .int .u64 0, .slice (some ⟨wr.heap.size, 0, none⟩) 2 2] 27) ∧
    (chainW wr g k z0 z1 z2 z3 z4 z5 y0 y1 y2 y3 y4 y5).drew.heap[n0]? = some nilBlk ∧
    ReAt (OwnO ok n0 g) (chainW wr g k z0 z1 z2 z3 z4 z5 y0 y1 y2 y3 y4 y5).drew (.agg #[.int .u8 k, .int .u64 0, .int .u64 0, .int .u64 0, .int .u64 0, .slice (some ⟨wr.heap.size, 0, none⟩) 2 2]) (.node k Ws.nil [r, t]) ∧
    Below n0 w (chainW wr g k z0 z1 z2 z3 z4 z5 y0 y1 y2 y3 y4 y5).drew := by
  obtain ⟨s1, s2, s3, s4⟩ := rch_step hk hn0 hG hN hv hv2 hb
  exact ⟨by rw [drew_hp]; exact s1, by rw [drew_hp]; exact s2, s3.below (Below.refl _ _).drew, s4.drew⟩
theorem box_box {w : World} {o : Obj} : (w.alloc nilBlk |>.alloc o).heap[w.heap.size]? = some nilBlk := (Below.heap_alloc _ _ _ (by simp)).trans (blk_new w _)
def RowN (ok : Nat → Prop) (w : World) (al : Option Addr) (l : List Rx) : Prop := ∃ b off, al = some ⟨b, off, none⟩ ∧ b < w.heap.size ∧ NodesAt ok w b off l
theorem RowN.kid {ok : Nat → Prop} {w : World} {al : Option Addr} {ks : List Rx} (h : RowN ok w al ks) {i : Nat} (hi : i < ks.length) : ∃ b off, al = some ⟨b, off, none⟩ ∧ b < w.heap.size ∧ NodeAt ok w b (off + i * 6) ks[i] := by
  obtain ⟨b, off, e, hlt, h⟩ := h
  exact ⟨b, off, e, hlt, nodesAt_get h i hi⟩
theorem RowN.below {ok : Nat → Prop} {w w' : World} {al : Option Addr} {ks : List Rx} (h : RowN ok w al ks) (hb : Below w.heap.size w w') : RowN ok w' al ks := by
  obtain ⟨b, off, e, hlt, h⟩ := h
  exact ⟨b, off, e, Nat.lt_of_lt_of_le hlt hb.size, NodesAt.below hb ks hlt h⟩
theorem fold_foldE (k o : Nat) (f : Ex → Ex → Ex) (hf : ∀ a b, (f a b).rx = .node k Ws.nil [a.rx, b.rx]) : ∀ l : List Ex, l ≠ [] → foldR k o (l.map Ex.rx) = (foldE f l).rx
  | [], h => absurd rfl h
  | [e], _ => rfl
  | e :: e' :: l, _ => by
    have := fold_foldE k o f hf (e' :: l) (by simp)
    show Rx.node k Ws.nil [e.rx, foldR k o ((e' :: l).map Ex.rx)] = _
    rw [this]
    exact (hf _ _).symm
set_option maxHeartbeats 4000000 in
theorem rchain_any {ok : Nat → Prop} (k o : Nat) (l : List Rx) (al : Option Addr) (cap : Nat) (w : World) (hk : k < 256) (hlen : l.length < 2199023255552) (hl : l ≠ []) (h : RowN ok w al l) :
    Calls Try.prog 69 #[.int .u8 k, .slice al l.length cap] w (RePost (fun b => ok b ∧ b < w.heap.size) (foldR k o l) w) := by
  have HR := Lib.hid h
  clear h
  have hpos : 0 < l.length := List.length_pos_iff.2 hl
  obtain ⟨b, off, hab, hblt, hnode⟩ := HR.out.kid (i := l.length - 1) (by omega)
  subst hab
  have hb0 := (Below.refl _ w).alloc (Nat.le_refl _) nilBlk
  have hkid := NodeAt.below hb0 _ hblt hnode
  have hdrop : l.drop (l.length - 1) = [l[l.length - 1]'(by omega)] := by
    rw [List.drop_eq_getElem_cons (by omega), List.drop_of_length_le (by omega)]
  have HD := Lib.hid hdrop
  clear hdrop hl
  generalize l[l.length - 1]'(by omega) = kid at *
  obtain ⟨k', ⟨ta, tb, tc, td⟩, ks'⟩ := kid
  obtain ⟨al', cap', ⟨c0, c1, c2, c3, c4, c5⟩, -⟩ := hkid.read
  obtain ⟨al'', cap'', ⟨c0', c1', c2', c3', c4', c5'⟩, hre⟩ := hnode.read
  have e5 := (World.cell?_of_block (w := w) (a := ⟨b, off + (l.length - 1) * 6 + 5, none⟩) (hb0.block b hblt)).symm.trans c5
  rw [c5'] at e5
  simp at e5
  obtain ⟨rfl, rfl⟩ := e5
  simp only at c0 c1 c2 c3 c4 c5
  unfold nilBlk at c0 c1 c2 c3 c4 c5
  have HRE := Lib.hid hre
  clear hkid hnode hre c0' c1' c2' c3' c4' c5'
  have q1 : (l.length : Int) - 1 = ((l.length - 1 : Nat) : Int) := by omega
  have q2 : ((l.length - 1 : Nat) : Int) < (l.length : Int) := by omega
  go_enter Try.func69, Try.ntmps69
  go_wp2
  go_loopw [7] (fun y wr => rchInv ok k o l w (w.heap.size + 1) y wr) (fun y _ => (intOf y + 1).toNat)
  case atStart =>
    refine ⟨l.length - 1, _, _, _, _, _, _, _, _, _, by omega, ?_, rfl, blk_at _ _ (by simp), box_box, ?_, hb0.alloc (by simp) _⟩
    · first | rfl | (congr 1; omega)
    · rw [HD.out]
      exact HRE.out.go ⟨by simp; omega, fun b hb h => ⟨.inl ⟨h, hb⟩, (Below.heap_alloc _ _ _ (by simp; omega)).trans (Below.heap_alloc _ _ _ hb)⟩⟩
  case round =>
    obtain ⟨j, v, y0, y1, y2, y3, y4, yl, yn, yc, hj, rfl, rfl, hg, hn, hv, hb⟩ := hrel
    have HG := Lib.hid hg
    have HN := Lib.hid hn
    have HV' := Lib.hid hv
    clear hg hn hv HD HRE c0 c1 c2 c3 c4 c5
    have hgs := (Array.getElem?_eq_some_iff.1 HG.out).1
    by_cases hj0 : j = 0
    · subst hj0
      obtain ⟨d0, e1, e2, e3, e4, e5, f0, f1, f2, f3, f4, f5⟩ := cellsR HG.out
      obtain ⟨g0, g1, g2, g3, g4, g5, p0, p1, p2, p3, p4, p5⟩ := cellsR HN.out
      have hp := putR HN.out (.int .u8 y0) (.int .u64 y1) (.int .u64 y2) (.int .u64 y3) (.int .u64 y4) (.slice yl yn yc)
      have hbb := putB hb (Nat.le_refl w.heap.size) (.int .u8 y0) (.int .u64 y1) (.int .u64 y2) (.int .u64 y3) (.int .u64 y4) (.slice yl yn yc)
      have hre : ReAt (fun b => (ok b ∧ b < w.heap.size) ∨ w.heap.size ≤ b) (putW wr w.heap.size (.int .u8 y0) (.int .u64 y1) (.int .u64 y2) (.int .u64 y3) (.int .u64 y4) (.slice yl yn yc)) (.agg #[.int .u8 y0, .int .u64 y1, .int .u64 y2, .int .u64 y3, .int .u64 y4, .slice yl yn yc]) (foldR k o l) := by
        have h := HV'.out
        rw [List.drop_zero] at h
        refine h.go ⟨by rw [putW_size]; exact Nat.le_refl _, fun b _ hb => ?_⟩
        rcases hb with hb | hb
        · exact ⟨.inl hb, putW_other _ _ _ _ _ _ _ _ (by omega)⟩
        · exact ⟨.inr (by omega), putW_other _ _ _ _ _ _ _ _ (by omega)⟩
      unfold putW at hp hbb hre
      have HP := Lib.hid hp
      have HBB := Lib.hid hbb
      have HRE := Lib.hid hre
      clear hp hbb hre
      go_wp2
      exact ret_re HP.out Try.results69 rfl rfl ⟨_, rfl, HRE.out, HBB.out⟩
    · have d1 : decide (0 ≤ (j : Int) - 1) = true := by simp; omega
      obtain ⟨b2, off2, hab2, hblt2, hnode2⟩ := HR.out.kid (i := j - 1) (by omega)
      simp at hab2
      obtain ⟨rfl, rfl⟩ := hab2
      have hkid2 := NodeAt.go (ok := ok) (ok' := OwnO ok w.heap.size (w.heap.size + 1)) ⟨hb.size, fun b hb' h => ⟨.inl ⟨h, hb'⟩, hb.block b hb'⟩⟩ _ (hb.block _ hblt2) hnode2
      have hdrop : l.drop (j - 1) = l[j - 1]'(by omega) :: l.drop j := by
        rw [List.drop_eq_getElem_cons (by omega)]; congr 2; omega
      have hne : l.drop j ≠ [] := by simp; omega
      have hfo := foldR_cons k o (l[j - 1]'(by omega)) hne
      rw [← hdrop] at hfo
      have HFO := Lib.hid hfo
      clear hdrop hne hfo hnode2
      generalize l[j - 1]'(by omega) = kid2 at *
      obtain ⟨k2, ⟨sa, sb, sc, sd⟩, ks2⟩ := kid2
      obtain ⟨al2, cap2, ⟨c0, c1, c2, c3, c4, c5⟩, hre⟩ := hkid2.read
      simp only at c0 c1 c2 c3 c4 c5
      have HRE := Lib.hid hre
      clear hkid2 hre
      have r1 : (j : Int) - 1 = ((j - 1 : Nat) : Int) := by omega
      have r2 : ((j - 1 : Nat) : Int) < (l.length : Int) := by omega
      obtain ⟨d0, e1, e2, e3, e4, e5, f0, f1, f2, f3, f4, f5⟩ := cellsR HG.out
      go_wp2_with fail
      go_region
      obtain ⟨s1, s2, s3, s4⟩ := rch_stepD (k := k) hk (Nat.le_refl _) HG.out HN.out HV'.out HRE.out hb
      have HS1 := Lib.hid s1
      have HS2 := Lib.hid s2
      have HS3 := Lib.hid s3
      have HS4 := Lib.hid s4
      unfold chainW putW at HS1 HS2 HS3 HS4
      clear s1 s2 s3 s4
      go_wp2
      refine ⟨⟨j - 1, _, k, 0, 0, 0, 0, _, 2, 2, by omega, ?_, rfl, HS1.out, HS2.out, ?_, HS4.out⟩, ?_⟩
      · first | rfl | (congr 1; omega)
      · rw [HFO.out]; exact HS3.out
      · simp [intOf]; omega
end Go.Proofs.Ytiegejbbjlhpdaa
