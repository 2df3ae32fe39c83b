/- Lemmas of mine, merged: RexE, RexMay, ShowM, ShowN, RexR, RexF, RexG, RexH. -/
import Derived.Deep.RegionHeld3
import Derived.Test.YtdkdgbiagjflgaaDoorRexBAll
import Derived.Test.YtdkdgbiagjflgaaDoorSetMAll
import Derived.Laws.MakeOwn
import Derived.Deep.RegionWith
import Derived.BigRegion
/- rex.isBare, rex.Of, rex.nodeMay. -/
namespace Go.Proofs.YtdkdgbiagjflgaaDoor
open Go.RowKit
def bareB (s : Ws) : Bool := sameW s Ws.nil
set_option maxHeartbeats 1000000 in
theorem isBare_any (s : Ws) (w : World) :
    Calls Tryd.prog 37 #[s.v] w fun e w' => e = .returned (.bool (bareB s)) ∧ Below w.heap.size w w' := by
  by_cases h : sameW s Ws.nil = true
  · have e : bareB s = true := h
    rw [e]
    obtain rfl := sameW_iff.1 h
    have hq := eqW_yes Ws.nil
    rw [nil_v] at hq ⊢
    clear h e
    go_enter Tryd.func37, Tryd.ntmps37
    go_wp2
    go_ret
    exact ⟨rfl, (Below.refl _ w).alloc (Nat.le_refl _) _⟩
  · have e : bareB s = false := by simpa [bareB] using h
    rw [e]
    have hne : s ≠ Ws.nil := fun e => h (sameW_iff.2 e)
    have hq := eqW_no hne
    rw [nil_v] at hq
    obtain ⟨a, b, c, d⟩ := s
    unfold Ws.v at hq ⊢
    clear h e hne
    go_enter Tryd.func37, Tryd.ntmps37
    go_wp2
    go_ret
    exact ⟨rfl, (Below.refl _ w).alloc (Nat.le_refl _) _⟩
theorem below_blk {w w1 : World} {B g : Nat} {o : Obj} (h : Below B w w1) (hg : g < B) (hw : w.heap[g]? = some o) : w1.heap[g]? = some o := (h.block g hg).trans hw
set_option maxHeartbeats 1000000 in
theorem ofX_any (s : Ws) (w : World) (hs : s.Ok) :
    Calls Tryd.prog 21 #[s.v] w (NewPost (ofR s) w) := by
  have KB := Lib.hid fun W => isBare_any s W
  have HO := Lib.hid (show ofR s = if bareB s then .node 1 Ws.nil [] else .node 3 s [] from rfl)
  generalize bareB s = q at *
  obtain ⟨a, b, c, d⟩ := s
  unfold Ws.v at KB ⊢
  go_enter Tryd.func21, Tryd.ntmps21
  go_wp2_with fail
  refine (KB.out _).mono ?_
  rintro e w1 ⟨rfl, hb1⟩
  have hbl : w1.heap[w.heap.size + 1]? = some (.cells #[.int .u8 0, .int .u64 0, .int .u64 0, .int .u64 0, .int .u64 0, .slice none 0 0] 30) := (hb1.block _ (by simp)).trans (blk_at _ _ (by simp))
  have hbs : w1.heap[w.heap.size]? = some (.cells #[.int .u64 a, .int .u64 b, .int .u64 c, .int .u64 d] 28) := (hb1.block _ (by simp; omega)).trans ((Below.heap_alloc _ _ _ (by simp)).trans (blk_at _ _ rfl))
  have hbw : Below w.heap.size w w1 := (((Below.refl _ w).alloc (Nat.le_refl _) _).alloc (by simp) _).trans (hb1.mono (by simp; omega))
  obtain ⟨d0, d1, d2, d3, d4, d5, f0, f1, f2, f3, f4, f5⟩ := cellsR hbl
  obtain ⟨⟨c0, c1, c2, c3⟩, _⟩ := (show Box w1 w.heap.size ⟨a, b, c, d⟩ from hbs).all
  simp only at c0 c1 c2 c3
  have HBL := Lib.hid hbl
  have HBW := Lib.hid hbw
  clear hbl hbs hb1 hbw
  cases q
  · have HP := Lib.hid (putR HBL.out (.int .u8 3) (.int .u64 a) (.int .u64 b) (.int .u64 c) (.int .u64 d) (.slice none 0 0))
    have HB := Lib.hid (putB HBW.out (by omega : w.heap.size ≤ w.heap.size + 1) (.int .u8 3) (.int .u64 a) (.int .u64 b) (.int .u64 c) (.int .u64 d) (.slice none 0 0))
    unfold putW at HP HB
    go_wp2
    refine ret_re HP.out Tryd.results21 rfl rfl ⟨_, rfl, ?_, HB.out⟩
    rw [HO.out]
    exact bareAt _ _ 3 ⟨a, b, c, d⟩ (by decide) hs
  · have HP := Lib.hid (putR HBL.out (.int .u8 1) (.int .u64 0) (.int .u64 0) (.int .u64 0) (.int .u64 0) (.slice none 0 0))
    have HB := Lib.hid (putB HBW.out (by omega : w.heap.size ≤ w.heap.size + 1) (.int .u8 1) (.int .u64 0) (.int .u64 0) (.int .u64 0) (.int .u64 0) (.slice none 0 0))
    unfold putW at HP HB
    go_wp2
    refine ret_re HP.out Tryd.results21 rfl rfl ⟨_, rfl, ?_, HB.out⟩
    rw [HO.out]
    exact bareAt _ _ 1 Ws.nil (by decide) Ws.nil_ok
def nodeGood (k n : Nat) (q : Bool) : Bool :=
  if k = 1 ∨ k = 2 then decide (n = 0) && q else if k = 3 then decide (n = 0) && !q else if k = 4 ∨ k = 5 then decide (n = 2) && q else if k = 6 then decide (n = 1) && q else false
def goodN : Rx → Bool
  | .node k s ks => nodeGood k ks.length (bareB s)
/-- What a walk reads of a block that holds an expression. -/
def ReCells (x : World) (g : Nat) (k a b c d : Nat) (sl : Value) : Prop := x.cell? ⟨g, 0, none⟩ = some (.int .u8 k) ∧ x.cell? ⟨g, 1, none⟩ = some (.int .u64 a) ∧ x.cell? ⟨g, 2, none⟩ = some (.int .u64 b) ∧ x.cell? ⟨g, 3, none⟩ = some (.int .u64 c) ∧ x.cell? ⟨g, 4, none⟩ = some (.int .u64 d) ∧ x.cell? ⟨g, 5, none⟩ = some sl
theorem reCells_of {x : World} {g k a b c d : Nat} {sl : Value} (h : x.heap[g]? = some (.cells #[.int .u8 k, .int .u64 a, .int .u64 b, .int .u64 c, .int .u64 d, sl] 30)) : ReCells x g k a b c d sl := by
  obtain ⟨d0, d1, d2, d3, d4, d5, _⟩ := cellsR h
  exact ⟨d0, d1, d2, d3, d4, d5⟩
theorem ReCells.below {x y : World} {B g k a b c d : Nat} {sl : Value} (h : ReCells x g k a b c d sl) (hb : Below B x y) (hg : g < B) : ReCells y g k a b c d sl := by
  have e := fun o => hb.cell (p := ⟨g, o, none⟩) hg
  obtain ⟨d0, d1, d2, d3, d4, d5⟩ := h
  exact ⟨by rw [e]; exact d0, by rw [e]; exact d1, by rw [e]; exact d2, by rw [e]; exact d3, by rw [e]; exact d4, by rw [e]; exact d5⟩
theorem keepR {W x y : World} {g k a b c d : Nat} {sl : Value} (h : ReCells W g k a b c d sl) (hg : g < W.heap.size) (h1 : Below W.heap.size W x) (h2 : Below x.heap.size x y) :
    (y.cell? ⟨g, 0, none⟩ = some (.int .u8 k) ∧ y.cell? ⟨g, 1, none⟩ = some (.int .u64 a) ∧ y.cell? ⟨g, 2, none⟩ = some (.int .u64 b) ∧ y.cell? ⟨g, 3, none⟩ = some (.int .u64 c) ∧ y.cell? ⟨g, 4, none⟩ = some (.int .u64 d) ∧ y.cell? ⟨g, 5, none⟩ = some sl) ∧ Below W.heap.size W y := by
  have hb := h1.trans (h2.mono h1.size)
  exact ⟨h.below hb hg, hb⟩
set_option maxHeartbeats 4000000 in
theorem nodeMay_any (k : Nat) (s : Ws) (n : Nat) (al : Option Addr) (cap : Nat) (w : World) (hk : k < 256) (hn : n < 2199023255552) :
    Calls Tryd.prog 57 #[.agg #[.int .u8 k, .int .u64 s.a, .int .u64 s.b, .int .u64 s.c, .int .u64 s.d, .slice al n cap]] w fun e w' => e = .returned (.bool (nodeGood k n (bareB s))) ∧ Below w.heap.size w w' := by
  have KB := Lib.hid fun W => isBare_any s W
  generalize bareB s = q at *
  obtain ⟨a, b, c, d⟩ := s
  unfold Ws.v at KB
  simp only at KB ⊢
  go_enter Tryd.func57, Tryd.ntmps57
  go_wp2_with fail
  have h0 := reCells_of (blk_new w (.cells #[.int .u8 k, .int .u64 a, .int .u64 b, .int .u64 c, .int .u64 d, .slice al n cap] 30))
  have hb0 := (Below.refl _ w).alloc (Nat.le_refl _) (.cells #[.int .u8 k, .int .u64 a, .int .u64 b, .int .u64 c, .int .u64 d, .slice al n cap] 30)
  have hg : w.heap.size < (w.alloc (.cells #[.int .u8 k, .int .u64 a, .int .u64 b, .int .u64 c, .int .u64 d, .slice al n cap] 30)).heap.size := by simp
  generalize hW : w.alloc (.cells #[.int .u8 k, .int .u64 a, .int .u64 b, .int .u64 c, .int .u64 d, .slice al n cap] 30) = W at *
  clear hW
  have H0 := Lib.hid h0
  clear h0
  go_region_held3 (fun x => (x.cell? ⟨w.heap.size, 0, none⟩ = some (.int .u8 k) ∧ x.cell? ⟨w.heap.size, 1, none⟩ = some (.int .u64 a) ∧ x.cell? ⟨w.heap.size, 2, none⟩ = some (.int .u64 b) ∧ x.cell? ⟨w.heap.size, 3, none⟩ = some (.int .u64 c) ∧ x.cell? ⟨w.heap.size, 4, none⟩ = some (.int .u64 d) ∧ x.cell? ⟨w.heap.size, 5, none⟩ = some (.slice al n cap)) ∧ Below W.heap.size W x)
    (first | assumption | exact ⟨H0.out, (Below.refl _ _).drew⟩ | exact keepR H0.out hg (And.right (by assumption)) (by assumption))
    (first
      | (go_at_call 37; (with_reducible refine (KB.out _).mono ?_); rintro e w' ⟨rfl, hbb⟩))
  all_goals
    obtain ⟨⟨c0, c1, c2, c3, c4, c5⟩, hbx⟩ := ‹_ ∧ Below W.heap.size W _›
    have hbw := hb0.trans (hbx.mono (Nat.le_of_lt hg))
    have HBW := Lib.hid hbw
    clear hbx hbw
    by_cases k1 : k = 1
    · subst k1
      by_cases hn0 : n = 0
      · subst hn0
        go_wp2
        go_ret
        exact ⟨by simp [nodeGood], HBW.out⟩
      · have e0 : ((n : Int) == 0) = false := by simp; omega
        go_wp2
        go_ret
        exact ⟨by simp [nodeGood, hn0], HBW.out⟩
    have f1 : ((k : Int) == 1) = false := by simp; omega
    by_cases k2 : k = 2
    · subst k2
      by_cases hn0 : n = 0
      · subst hn0
        go_wp2
        go_ret
        exact ⟨by simp [nodeGood], HBW.out⟩
      · have e0 : ((n : Int) == 0) = false := by simp; omega
        go_wp2
        go_ret
        exact ⟨by simp [nodeGood, hn0], HBW.out⟩
    have f2 : ((k : Int) == 2) = false := by simp; omega
    by_cases k3 : k = 3
    · subst k3
      by_cases hn0 : n = 0
      · subst hn0
        go_wp2
        go_ret
        exact ⟨by simp [nodeGood], HBW.out⟩
      · have e0 : ((n : Int) == 0) = false := by simp; omega
        go_wp2
        go_ret
        exact ⟨by simp [nodeGood, hn0], HBW.out⟩
    have f3 : ((k : Int) == 3) = false := by simp; omega
    by_cases k4 : k = 4
    · subst k4
      by_cases hn0 : n = 2
      · subst hn0
        go_wp2
        go_ret
        exact ⟨by simp [nodeGood], HBW.out⟩
      · have e0 : ((n : Int) == 2) = false := by simp; omega
        go_wp2
        go_ret
        exact ⟨by simp [nodeGood, hn0], HBW.out⟩
    have f4 : ((k : Int) == 4) = false := by simp; omega
    by_cases k5 : k = 5
    · subst k5
      by_cases hn0 : n = 2
      · subst hn0
        go_wp2
        go_ret
        exact ⟨by simp [nodeGood], HBW.out⟩
      · have e0 : ((n : Int) == 2) = false := by simp; omega
        go_wp2
        go_ret
        exact ⟨by simp [nodeGood, hn0], HBW.out⟩
    have f5 : ((k : Int) == 5) = false := by simp; omega
    by_cases k6 : k = 6
    · subst k6
      by_cases hn0 : n = 1
      · subst hn0
        go_wp2
        go_ret
        exact ⟨by simp [nodeGood], HBW.out⟩
      · have e0 : ((n : Int) == 1) = false := by simp; omega
        go_wp2
        go_ret
        exact ⟨by simp [nodeGood, hn0], HBW.out⟩
    have f6 : ((k : Int) == 6) = false := by simp; omega
    have HG := Lib.hid (show nodeGood k n q = false from by simp [nodeGood, k1, k2, k3, k4, k5, k6])
    clear k1 k2 k3 k4 k5 k6
    go_wp2
    go_ret
    exact ⟨by rw [HG.out]; rfl, HBW.out⟩
end Go.Proofs.YtdkdgbiagjflgaaDoor
/- Whether expressions may be; no program. -/
namespace Go.Proofs.YtdkdgbiagjflgaaDoor
mutual
def goodR : Rx → Bool
  | .node k s ks => nodeGood k ks.length (bareB s) && goodRs ks
def goodRs : List Rx → Bool
  | [] => true
  | r :: rs => goodR r && goodRs rs
end
theorem goodRs_append (a b : List Rx) : goodRs (a ++ b) = (goodRs a && goodRs b) := by
  induction a with
  | nil => simp [goodRs]
  | cons x t ih => simp [goodRs, ih, Bool.and_assoc]
/-- Whether an expression may be, where so many nodes are left. -/
def mayN (r : Rx) (n : Nat) : Bool := goodR r && decide (r.size ≤ n)
def mayNs (l : List Rx) (n : Nat) : Bool := goodRs l && decide (Rx.sizes l ≤ n)
def mayR (r : Rx) : Bool := mayN r 2000
theorem mayNs_step {l : List Rx} {n i : Nat} (h : i < l.length) (ht : mayNs (l.take i) n = true) (hk : mayN l[i] (n - Rx.sizes (l.take i)) = true) : mayNs (l.take (i + 1)) n = true := by
  simp [mayNs, mayN] at *
  rw [sizes_take l i h, List.take_succ_eq_append_getElem h, goodRs_append]
  simp [goodRs, ht, hk]; omega
theorem mayNs_stop {l : List Rx} {n i : Nat} (h : i < l.length) (ht : mayNs (l.take i) n = true) (hk : mayN l[i] (n - Rx.sizes (l.take i)) = false) : mayNs l n = false := by
  have e := List.take_append_drop (i + 1) l
  have hs := sizes_append (l.take (i + 1)) (l.drop (i + 1))
  have hg := goodRs_append (l.take (i + 1)) (l.drop (i + 1))
  rw [e] at hs hg
  rw [sizes_take l i h] at hs
  rw [List.take_succ_eq_append_getElem h, goodRs_append] at hg
  simp only [goodRs, Bool.and_true] at hg
  simp only [mayNs, mayN, Bool.and_eq_true, Bool.and_eq_false_iff, decide_eq_true_eq, decide_eq_false_iff_not] at *
  rcases hk with hk | hk
  · left; rw [hg, hk]; simp
  · right; omega
end Go.Proofs.YtdkdgbiagjflgaaDoor
/- Expressions that may be, and their texts: unlike ones have unlike texts; no program. -/
namespace Go.Proofs.YtdkdgbiagjflgaaDoor
/-- Expressions that may be. -/
inductive Ex where
  | empty
  | eps
  | cls (s : Ws)
  | seq (a b : Ex)
  | alt (a b : Ex)
  | star (a : Ex)
def Ex.rx : Ex → Rx
  | .empty => .node 1 Ws.nil []
  | .eps => .node 2 Ws.nil []
  | .cls s => .node 3 s []
  | .seq a b => .node 4 Ws.nil [a.rx, b.rx]
  | .alt a b => .node 5 Ws.nil [a.rx, b.rx]
  | .star a => .node 6 Ws.nil [a.rx]
def Ex.Wf : Ex → Prop
  | .empty => True
  | .eps => True
  | .cls s => s.Ok ∧ s ≠ Ws.nil
  | .seq a b => a.Wf ∧ b.Wf
  | .alt a b => a.Wf ∧ b.Wf
  | .star a => a.Wf
def Ex.size : Ex → Nat
  | .empty => 1
  | .eps => 1
  | .cls _ => 1
  | .seq a b => 1 + a.size + b.size
  | .alt a b => 1 + a.size + b.size
  | .star a => 1 + a.size
theorem Ex.size_rx : ∀ e : Ex, e.rx.size = e.size
  | .empty => by simp [Ex.rx, Rx.size, Rx.sizes, Ex.size]
  | .eps => by simp [Ex.rx, Rx.size, Rx.sizes, Ex.size]
  | .cls _ => by simp [Ex.rx, Rx.size, Rx.sizes, Ex.size]
  | .seq a b => by simp [Ex.rx, Rx.size, Rx.sizes, Ex.size, a.size_rx, b.size_rx]; omega
  | .alt a b => by simp [Ex.rx, Rx.size, Rx.sizes, Ex.size, a.size_rx, b.size_rx]; omega
  | .star a => by simp [Ex.rx, Rx.size, Rx.sizes, Ex.size, a.size_rx]
theorem Ex.rx_inj : ∀ e f : Ex, e.rx = f.rx → e = f
  | .empty, f, h => by cases f <;> simp_all [Ex.rx]
  | .eps, f, h => by cases f <;> simp_all [Ex.rx]
  | .cls _, f, h => by cases f <;> simp_all [Ex.rx]
  | .seq a b, f, h => by
    cases f with
    | seq c d =>
      simp [Ex.rx] at h
      rw [a.rx_inj c h.1, b.rx_inj d h.2]
    | _ => simp [Ex.rx] at h
  | .alt a b, f, h => by
    cases f with
    | alt c d =>
      simp [Ex.rx] at h
      rw [a.rx_inj c h.1, b.rx_inj d h.2]
    | _ => simp [Ex.rx] at h
  | .star a, f, h => by
    cases f with
    | star c =>
      simp [Ex.rx] at h
      rw [a.rx_inj c h]
    | _ => simp [Ex.rx] at h
/-- All sets of an expression are such. -/
def Rx.SetsOk : Rx → Prop
  | .node _ s ks => s.Ok ∧ ∀ k ∈ ks, k.SetsOk
theorem bare_nil {s : Ws} (h : bareB s = true) : s = Ws.nil := by
  unfold bareB at h
  exact sameW_iff.1 h
theorem goodRs_mem {l : List Rx} (h : goodRs l = true) : ∀ r ∈ l, goodR r = true := by
  induction l with
  | nil => intro r hr; cases hr
  | cons x t ih =>
    simp only [goodRs, Bool.and_eq_true] at h
    intro r hr
    rcases List.mem_cons.1 hr with rfl | hr
    · exact h.1
    · exact ih h.2 r hr
theorem ex_of_good (N : Nat) : ∀ r : Rx, r.size ≤ N → goodR r = true → r.SetsOk → ∃ e : Ex, e.rx = r ∧ e.Wf := by
  induction N with
  | zero => intro r h; have := r.size_pos; omega
  | succ N ih =>
    rintro ⟨k, s, ks⟩ hN hg hs
    have hN' : Rx.sizes ks ≤ N := by simp [Rx.size] at hN; omega
    unfold goodR at hg
    unfold Rx.SetsOk at hs
    rw [Bool.and_eq_true] at hg
    obtain ⟨hn, hks⟩ := hg
    have sub : ∀ r ∈ ks, ∃ e : Ex, e.rx = r ∧ e.Wf := fun r hr => by
      obtain ⟨i, hi, rfl⟩ := List.getElem_of_mem hr
      exact ih _ (Nat.le_trans (size_kid hi) hN') (goodRs_mem hks _ hr) (hs.2 _ hr)
    unfold nodeGood at hn
    by_cases h1 : k = 1 ∨ k = 2
    · rw [if_pos h1] at hn
      simp only [Bool.and_eq_true, decide_eq_true_eq] at hn
      obtain ⟨h2, h3⟩ := hn
      have hk := List.eq_nil_of_length_eq_zero h2
      have hb := bare_nil h3
      subst hk hb
      rcases h1 with rfl | rfl
      · exact ⟨.empty, rfl, trivial⟩
      · exact ⟨.eps, rfl, trivial⟩
    · rw [if_neg h1] at hn
      by_cases h2 : k = 3
      · rw [if_pos h2] at hn
        simp only [Bool.and_eq_true, decide_eq_true_eq, Bool.not_eq_true'] at hn
        have hk := List.eq_nil_of_length_eq_zero hn.1
        subst hk h2
        refine ⟨.cls s, rfl, hs.1, fun e => ?_⟩
        have := hn.2
        rw [e] at this
        exact absurd this (by decide)
      · rw [if_neg h2] at hn
        by_cases h3 : k = 4 ∨ k = 5
        · rw [if_pos h3] at hn
          simp only [Bool.and_eq_true, decide_eq_true_eq] at hn
          have hb := bare_nil hn.2
          subst hb
          match ks, hn.1 with
          | [a, b], _ =>
            obtain ⟨ea, rfl, wa⟩ := sub a (by simp)
            obtain ⟨eb, rfl, wb⟩ := sub b (by simp)
            rcases h3 with rfl | rfl
            · exact ⟨.seq ea eb, rfl, wa, wb⟩
            · exact ⟨.alt ea eb, rfl, wa, wb⟩
        · rw [if_neg h3] at hn
          by_cases h4 : k = 6
          · rw [if_pos h4] at hn
            simp only [Bool.and_eq_true, decide_eq_true_eq] at hn
            have hb := bare_nil hn.2
            subst hb h4
            match ks, hn.1 with
            | [a], _ =>
              obtain ⟨ea, rfl, wa⟩ := sub a (by simp)
              exact ⟨.star ea, rfl, wa⟩
          · rw [if_neg h4] at hn; exact absurd hn (by simp)
theorem good_ex : ∀ e : Ex, e.Wf → goodR e.rx = true
  | .empty, _ => by simp [Ex.rx, goodR, goodRs, nodeGood]; decide
  | .eps, _ => by simp [Ex.rx, goodR, goodRs, nodeGood]; decide
  | .cls s, h => by
    have : bareB s = false := by
      cases hb : bareB s with
      | false => rfl
      | true => exact absurd (bare_nil hb) h.2
    simp [Ex.rx, goodR, goodRs, nodeGood, this]
  | .seq a b, h => by
    have : bareB Ws.nil = true := by decide
    simp [Ex.rx, goodR, goodRs, nodeGood, this, good_ex a h.1, good_ex b h.2]
  | .alt a b, h => by
    have : bareB Ws.nil = true := by decide
    simp [Ex.rx, goodR, goodRs, nodeGood, this, good_ex a h.1, good_ex b h.2]
  | .star a, h => by
    have : bareB Ws.nil = true := by decide
    simp [Ex.rx, goodR, goodRs, nodeGood, this, good_ex a h]
end Go.Proofs.YtdkdgbiagjflgaaDoor
/- The text of an expression: unlike ones have unlike texts; no program. -/
namespace Go.Proofs.YtdkdgbiagjflgaaDoor
def roundL (s : List UInt8) (b : Bool) : List UInt8 := if b = true then 40 :: (s ++ [41]) else s
def Ex.isAlt : Ex → Bool
  | .alt _ _ => true
  | _ => false
def Ex.isSeq : Ex → Bool
  | .seq _ _ => true
  | _ => false
def Ex.text : Ex → List UInt8
  | .empty => [91, 93]
  | .eps => [40, 41]
  | .cls s => textW s
  | .seq a b => roundL a.text (a.isSeq || a.isAlt) ++ roundL b.text b.isAlt
  | .alt a b => roundL a.text a.isAlt ++ 124 :: b.text
  | .star a => roundL a.text (a.isSeq || a.isAlt) ++ [42]
def Ex.item (e : Ex) : List UInt8 := roundL e.text (e.isSeq || e.isAlt)
def Ex.part (e : Ex) : List UInt8 := roundL e.text e.isAlt
theorem text_seq (a b : Ex) : (Ex.seq a b).text = a.item ++ b.part := rfl
theorem text_alt (a b : Ex) : (Ex.alt a b).text = a.part ++ 124 :: b.text := rfl
theorem text_star (a : Ex) : (Ex.star a).text = a.item ++ [42] := rfl
theorem item_star (a : Ex) : (Ex.star a).item = a.item ++ [42] := rfl
theorem item_seq (a b : Ex) : (Ex.seq a b).item = 40 :: ((Ex.seq a b).text ++ [41]) := rfl
theorem item_alt (a b : Ex) : (Ex.alt a b).item = 40 :: ((Ex.alt a b).text ++ [41]) := rfl
theorem part_seq (a b : Ex) : (Ex.seq a b).part = a.item ++ b.part := rfl
theorem part_item {e : Ex} (h : e.isSeq = false) : e.part = e.item := by unfold Ex.part Ex.item; rw [h]; rfl
theorem part_text {e : Ex} (h : e.isAlt = false) : e.part = e.text := by unfold Ex.part roundL; rw [h]; rfl
/-- A byte that a text begins with. -/
def Starts (c : UInt8) : Prop := c ≠ 41 ∧ c ≠ 42 ∧ c ≠ 124 ∧ c ≠ 93
theorem sign_start : ∀ n : Fin 256, ∃ c t, signL n.1 = c :: t ∧ c ≠ 41 ∧ c ≠ 42 ∧ c ≠ 124 ∧ c ≠ 93 ∧ c ≠ 40 ∧ c ≠ 91 ∧ c ≠ 46 := by
  intro n
  have h : ∀ n : Fin 256, (signL n.1).headD 0 ≠ 41 ∧ (signL n.1).headD 0 ≠ 42 ∧ (signL n.1).headD 0 ≠ 124 ∧ (signL n.1).headD 0 ≠ 93 ∧ (signL n.1).headD 0 ≠ 40 ∧ (signL n.1).headD 0 ≠ 91 ∧ (signL n.1).headD 0 ≠ 46 := by decide +kernel
  have h2 := h n
  have hl := (signL_length n.1).2
  match hs : signL n.1, hl with
  | c :: t, _ =>
    rw [hs] at h2
    exact ⟨c, t, rfl, h2⟩
theorem sign_no93 : ∀ n : Fin 256, ∀ c ∈ signL n.1, c ≠ 93 := by decide +kernel
theorem textOf_no93 : ∀ (k : Nat) (l : List Nat), l.length ≤ k → (∀ x ∈ l, x < 256) → ∀ c ∈ textOf l, c ≠ 93
  | 0, l, h, _ => by
    have : l = [] := List.eq_nil_of_length_eq_zero (by omega)
    subst this
    simp [textOf_nil]
  | k + 1, [], _, _ => by simp [textOf_nil]
  | k + 1, x :: l, h, hl => by
    have hx := hl x (List.mem_cons_self ..)
    simp at h
    have hrest : ∀ y ∈ l.drop (runFrom x l), y < 256 := fun y hy => hl y (List.mem_cons_of_mem _ (List.mem_of_mem_drop hy))
    have ih := textOf_no93 k (l.drop (runFrom x l)) (by simp; omega) hrest
    have htk := runFrom_take x l
    intro c hc
    rw [textOf_cons] at hc
    rcases List.mem_append.1 hc with hc | hc
    · have hin : ∀ j, 1 ≤ j → j ≤ runFrom x l → x + j < 256 := fun j h1 h2 => by
        have : x + j ∈ l.take (runFrom x l) := by rw [htk]; simp [List.mem_range'_1]; omega
        exact hl _ (List.mem_cons_of_mem _ (List.mem_of_mem_take this))
      unfold segL at hc
      split at hc
      · rename_i h3
        have hm := hin (runFrom x l) (by omega) (Nat.le_refl _)
        rcases List.mem_append.1 hc with hc | hc
        · exact sign_no93 ⟨x, hx⟩ c hc
        · rcases List.mem_cons.1 hc with rfl | hc
          · decide
          · exact sign_no93 ⟨x + (1 + runFrom x l) - 1, by omega⟩ c hc
      · split at hc
        · rename_i h2
          have hm := hin 1 (Nat.le_refl _) (by omega)
          rcases List.mem_append.1 hc with hc | hc
          · exact sign_no93 ⟨x, hx⟩ c hc
          · exact sign_no93 ⟨x + 1, hm⟩ c hc
        · exact sign_no93 ⟨x, hx⟩ c hc
    · exact ih c hc
theorem split93 : ∀ (a b x y : List UInt8), (∀ c ∈ a, c ≠ 93) → (∀ c ∈ b, c ≠ 93) → a ++ 93 :: x = b ++ 93 :: y → a = b ∧ x = y
  | [], [], x, y, _, _, h => by simpa using h
  | [], c :: b, x, y, _, hb, h => by
    simp at h
    exact absurd h.1.symm (hb c (by simp))
  | c :: a, [], x, y, ha, _, h => by
    simp at h
    exact absurd h.1 (ha c (by simp))
  | c :: a, d :: b, x, y, ha, hb, h => by
    simp at h
    obtain ⟨rfl, h⟩ := h
    have := split93 a b x y (fun e he => ha e (List.mem_cons_of_mem _ he)) (fun e he => hb e (List.mem_cons_of_mem _ he)) h
    exact ⟨by rw [this.1], this.2⟩
theorem bytes_ne {s : Ws} (hs : s.Ok) (h : s ≠ Ws.nil) : bytesN s ≠ [] := fun e => h (bytesN_inj hs Ws.nil_ok (by rw [e]; decide))
/-- What a set's text is: a dot, a sign, or some in brackets. -/
theorem textW_cases {s : Ws} (hs : s.Ok) (h : s ≠ Ws.nil) : textW s = [46] ∨ (∃ n : Fin 256, textW s = signL n.1) ∨ ∃ a, textW s = 91 :: (a ++ [93]) ∧ (∀ c ∈ a, c ≠ 93) ∧ a ≠ [] := by
  unfold textW
  split
  · exact .inl rfl
  · split
    · rename_i h1
      obtain ⟨x, hx⟩ := List.length_eq_one_iff.1 h1
      have hlt : x < 256 := bytesN_lt s x (by rw [hx]; simp)
      exact .inr (.inl ⟨⟨x, hlt⟩, by rw [hx]; rfl⟩)
    · refine .inr (.inr ⟨_, rfl, textOf_no93 _ _ (Nat.le_refl _) (bytesN_lt s), ?_⟩)
      have hne := bytes_ne hs h
      match hb : bytesN s, hne with
      | x :: l, _ =>
        rw [textOf_cons]
        intro e
        have h1 := (List.append_eq_nil_iff.1 e).1
        have h2 := signL_length x
        unfold segL at h1
        split at h1
        · rw [(List.append_eq_nil_iff.1 h1).1] at h2; simp at h2
        · split at h1
          · rw [(List.append_eq_nil_iff.1 h1).1] at h2; simp at h2
          · rw [h1] at h2; simp at h2
theorem textW_pre {s t : Ws} (hs : s.Ok) (ht : t.Ok) (hs0 : s ≠ Ws.nil) (ht0 : t ≠ Ws.nil) {x y : List UInt8} (h : textW s ++ x = textW t ++ y) : s = t ∧ x = y := by
  have key : textW s = textW t ∧ x = y := by
    rcases textW_cases hs hs0 with e1 | ⟨n, e1⟩ | ⟨a, e1, ha, _⟩ <;> rcases textW_cases ht ht0 with e2 | ⟨m, e2⟩ | ⟨b, e2, hb, _⟩
    · rw [e1, e2] at h ⊢; exact ⟨rfl, by simpa using h⟩
    · obtain ⟨c, u, hc, _, _, _, _, _, _, h46⟩ := sign_start m
      rw [e1, e2, hc] at h
      simp at h
      exact absurd h.1.symm h46
    · rw [e1, e2] at h; simp at h
    · obtain ⟨c, u, hc, _, _, _, _, _, _, h46⟩ := sign_start n
      rw [e1, e2, hc] at h
      simp at h
      exact absurd h.1 h46
    · rw [e1, e2] at h ⊢
      have r1 := readSign_sign n.1 n.2 x
      have r2 := readSign_sign m.1 m.2 y
      rw [h, r2] at r1
      simp at r1
      rw [r1.1, r1.2]; exact ⟨rfl, rfl⟩
    · obtain ⟨c, u, hc, _, _, _, _, _, h91, _⟩ := sign_start n
      rw [e1, e2, hc] at h
      simp at h
      exact absurd h.1 h91
    · rw [e1, e2] at h; simp at h
    · obtain ⟨c, u, hc, _, _, _, _, _, h91, _⟩ := sign_start m
      rw [e1, e2, hc] at h
      simp at h
      exact absurd h.1.symm h91
    · rw [e1, e2] at h ⊢
      simp at h
      have := split93 a b x y ha hb h
      rw [this.1, this.2]; exact ⟨rfl, rfl⟩
  exact ⟨textW_inj hs ht key.1, key.2⟩
theorem textW_start {s : Ws} (hs : s.Ok) (h : s ≠ Ws.nil) : ∃ c t, textW s = c :: t ∧ Starts c ∧ c ≠ 40 := by
  rcases textW_cases hs h with e | ⟨n, e⟩ | ⟨a, e, _, _⟩
  · exact ⟨_, _, e, by unfold Starts; decide, by decide⟩
  · obtain ⟨c, u, hc, h1, h2, h3, h4, h5, _⟩ := sign_start n
    exact ⟨c, u, by rw [e, hc], ⟨h1, h2, h3, h4⟩, h5⟩
  · exact ⟨_, _, e, by unfold Starts; decide, by decide⟩
theorem textW_not_empty {s : Ws} (hs : s.Ok) (h : s ≠ Ws.nil) (x y : List UInt8) : textW s ++ x ≠ 91 :: 93 :: y := by
  intro e
  rcases textW_cases hs h with e1 | ⟨n, e1⟩ | ⟨a, e1, ha, hne⟩
  · rw [e1] at e; simp at e
  · obtain ⟨c, u, hc, _, _, _, _, _, h91, _⟩ := sign_start n
    rw [e1, hc] at e
    simp at e
    exact h91 e.1
  · rw [e1] at e
    match a, hne with
    | c :: a, _ =>
      simp at e
      exact ha c (by simp) e.1
theorem start_round {s : List UInt8} {b : Bool} (h : ∃ c t, s = c :: t ∧ Starts c) : ∃ c t, roundL s b = c :: t ∧ Starts c := by
  unfold roundL
  split
  · exact ⟨_, _, rfl, by unfold Starts; decide⟩
  · exact h
theorem start_app {s x : List UInt8} (h : ∃ c t, s = c :: t ∧ Starts c) : ∃ c t, s ++ x = c :: t ∧ Starts c := by
  obtain ⟨c, t, rfl, hc⟩ := h
  exact ⟨c, t ++ x, rfl, hc⟩
theorem text_start : ∀ e : Ex, e.Wf → ∃ c t, e.text = c :: t ∧ Starts c
  | .empty, _ => ⟨_, _, rfl, by unfold Starts; decide⟩
  | .eps, _ => ⟨_, _, rfl, by unfold Starts; decide⟩
  | .cls s, h => by
    obtain ⟨c, t, e, hc, _⟩ := textW_start h.1 h.2
    exact ⟨c, t, e, hc⟩
  | .seq a b, h => start_app (start_round (text_start a h.1))
  | .alt a b, h => start_app (start_round (text_start a h.1))
  | .star a, h => start_app (start_round (text_start a h))
theorem item_start {e : Ex} (h : e.Wf) : ∃ c t, e.item = c :: t ∧ Starts c := start_round (text_start e h)
theorem part_start {e : Ex} (h : e.Wf) : ∃ c t, e.part = c :: t ∧ Starts c := start_round (text_start e h)
def Term0 (x : List UInt8) : Prop := x = [] ∨ ∃ t, x = 41 :: t
def Term1 (x : List UInt8) : Prop := x = [] ∨ (∃ t, x = 41 :: t) ∨ ∃ t, x = 124 :: t
def NoStar (x : List UInt8) : Prop := ∀ t, x ≠ 42 :: t
theorem Term1.noStar {x : List UInt8} (h : Term1 x) : NoStar x := by
  rintro t rfl
  rcases h with h | ⟨u, h⟩ | ⟨u, h⟩ <;> simp at h
theorem noStar_part {e : Ex} (h : e.Wf) (x : List UInt8) : NoStar (e.part ++ x) := by
  obtain ⟨c, t, e1, hc⟩ := start_app (x := x) (part_start h)
  rintro u hu
  rw [e1] at hu
  simp at hu
  exact hc.2.1 hu.1
theorem term_not_part {e : Ex} (h : e.Wf) {x y : List UInt8} (hy : Term1 y) (he : e.part ++ x = y) : False := by
  obtain ⟨c, t, e1, hc⟩ := start_app (x := x) (part_start h)
  rw [e1] at he
  rcases hy with hy | ⟨u, hy⟩ | ⟨u, hy⟩
  · rw [hy] at he; simp at he
  · rw [hy] at he; simp at he; exact hc.1 he.1
  · rw [hy] at he; simp at he; exact hc.2.2.1 he.1
/-- Texts up to a size tell the expression. -/
def TP (N : Nat) : Prop := ∀ e f : Ex, ∀ x y : List UInt8, e.size ≤ N → e.Wf → f.Wf → Term0 x → Term0 y → e.text ++ x = f.text ++ y → e = f ∧ x = y
def Ex.base : Ex → Ex
  | .star a => a.base
  | e => e
def Ex.stars : Ex → Nat
  | .star a => a.stars + 1
  | _ => 0
def Ex.isStar : Ex → Bool
  | .star _ => true
  | _ => false
theorem base_star : ∀ e : Ex, e.base.isStar = false
  | .empty => rfl
  | .eps => rfl
  | .cls _ => rfl
  | .seq _ _ => rfl
  | .alt _ _ => rfl
  | .star a => base_star a
theorem item_base : ∀ e : Ex, e.item = e.base.item ++ List.replicate e.stars 42
  | .empty => by simp [Ex.base, Ex.stars]
  | .eps => by simp [Ex.base, Ex.stars]
  | .cls _ => by simp [Ex.base, Ex.stars]
  | .seq _ _ => by simp [Ex.base, Ex.stars]
  | .alt _ _ => by simp [Ex.base, Ex.stars]
  | .star a => by
    rw [item_star, item_base a, Ex.base, Ex.stars, List.append_assoc, List.replicate_succ']
theorem base_wf : ∀ e : Ex, e.Wf → e.base.Wf
  | .empty, h => h
  | .eps, h => h
  | .cls _, h => h
  | .seq _ _, h => h
  | .alt _ _, h => h
  | .star a, h => base_wf a h
theorem base_size : ∀ e : Ex, e.base.size + e.stars ≤ e.size
  | .empty => by simp [Ex.base, Ex.stars]
  | .eps => by simp [Ex.base, Ex.stars]
  | .cls _ => by simp [Ex.base, Ex.stars]
  | .seq _ _ => by simp [Ex.base, Ex.stars]
  | .alt _ _ => by simp [Ex.base, Ex.stars]
  | .star a => by
    have := base_size a
    simp [Ex.base, Ex.stars, Ex.size]; omega
theorem base_inj : ∀ e f : Ex, e.base = f.base → e.stars = f.stars → e = f
  | .star a, .star b, h1, h2 => by
    have := base_inj a b h1 (by simpa [Ex.stars] using h2)
    rw [this]
  | .star a, .empty, _, h2 => by simp [Ex.stars] at h2
  | .star a, .eps, _, h2 => by simp [Ex.stars] at h2
  | .star a, .cls _, _, h2 => by simp [Ex.stars] at h2
  | .star a, .seq _ _, _, h2 => by simp [Ex.stars] at h2
  | .star a, .alt _ _, _, h2 => by simp [Ex.stars] at h2
  | .empty, f, h1, h2 => by cases f <;> simp_all [Ex.base, Ex.stars]
  | .eps, f, h1, h2 => by cases f <;> simp_all [Ex.base, Ex.stars]
  | .cls _, f, h1, h2 => by cases f <;> simp_all [Ex.base, Ex.stars]
  | .seq _ _, f, h1, h2 => by cases f <;> simp_all [Ex.base, Ex.stars]
  | .alt _ _, f, h1, h2 => by cases f <;> simp_all [Ex.base, Ex.stars]
theorem stars_pre : ∀ (n m : Nat) (x y : List UInt8), NoStar x → NoStar y → List.replicate n 42 ++ x = List.replicate m 42 ++ y → n = m ∧ x = y
  | 0, 0, x, y, _, _, h => ⟨rfl, by simpa using h⟩
  | 0, m + 1, x, y, hx, _, h => by simp [List.replicate_succ] at h; exact absurd h (hx _)
  | n + 1, 0, x, y, _, hy, h => by simp [List.replicate_succ] at h; exact absurd h.symm (hy _)
  | n + 1, m + 1, x, y, hx, hy, h => by
    simp [List.replicate_succ] at h
    have := stars_pre n m x y hx hy h
    exact ⟨by rw [this.1], this.2⟩
theorem group_pre {N : Nat} (H : TP N) {e f : Ex} (he : e.size ≤ N) (we : e.Wf) (wf : f.Wf) {x y : List UInt8} (h : 40 :: (e.text ++ [41]) ++ x = 40 :: (f.text ++ [41]) ++ y) : e = f ∧ x = y := by
  have h' : e.text ++ (41 :: x) = f.text ++ (41 :: y) := by simpa using h
  have := H e f (41 :: x) (41 :: y) he we wf (.inr ⟨_, rfl⟩) (.inr ⟨_, rfl⟩) h'
  exact ⟨this.1, by simpa using this.2⟩
theorem group_not_eps {e : Ex} (we : e.Wf) (x y : List UInt8) : 40 :: (e.text ++ [41]) ++ x ≠ [40, 41] ++ y := by
  obtain ⟨c, t, e1, hc⟩ := text_start e we
  rw [e1]
  intro h
  simp at h
  exact hc.1 h.1
theorem cls_not40 {s : Ws} (hs : s.Ok) (h : s ≠ Ws.nil) (x y : List UInt8) : textW s ++ x ≠ 40 :: y := by
  obtain ⟨c, t, e1, _, hc⟩ := textW_start hs h
  rw [e1]
  intro h
  simp at h
  exact hc h.1
theorem base_pre {N : Nat} (H : TP N) (e f : Ex) (he : e.size ≤ N ∨ (e.isSeq = false ∧ e.isAlt = false)) (we : e.Wf) (wf : f.Wf) (se : e.isStar = false) (sf : f.isStar = false) {x y : List UInt8} (h : e.item ++ x = f.item ++ y) : e = f ∧ x = y := by
  match e, f, he, we, wf, se, sf, h with
  | .empty, .empty, _, _, _, _, _, h => exact ⟨rfl, by simpa using h⟩
  | .empty, .eps, _, _, _, _, _, h => exact absurd h (by simp [Ex.item, Ex.isSeq, Ex.isAlt, roundL, Ex.text])
  | .empty, .cls t, _, _, wf, _, _, h => exact absurd h.symm (textW_not_empty wf.1 wf.2 y x)
  | .empty, .seq _ _, _, _, _, _, _, h => exact absurd h (by simp [Ex.item, Ex.isSeq, Ex.isAlt, roundL, Ex.text])
  | .empty, .alt _ _, _, _, _, _, _, h => exact absurd h (by simp [Ex.item, Ex.isSeq, Ex.isAlt, roundL, Ex.text])
  | .eps, .empty, _, _, _, _, _, h => exact absurd h (by simp [Ex.item, Ex.isSeq, Ex.isAlt, roundL, Ex.text])
  | .eps, .eps, _, _, _, _, _, h => exact ⟨rfl, by simpa using h⟩
  | .eps, .cls t, _, _, wf, _, _, h => exact absurd h.symm (cls_not40 wf.1 wf.2 y _)
  | .eps, .seq _ _, _, _, wf, _, _, h => exact absurd h.symm (group_not_eps wf y x)
  | .eps, .alt _ _, _, _, wf, _, _, h => exact absurd h.symm (group_not_eps wf y x)
  | .cls s, .empty, _, we, _, _, _, h => exact absurd h (textW_not_empty we.1 we.2 x y)
  | .cls s, .eps, _, we, _, _, _, h => exact absurd h (cls_not40 we.1 we.2 x _)
  | .cls s, .cls t, _, we, wf, _, _, h =>
    have := textW_pre we.1 wf.1 we.2 wf.2 h
    exact ⟨by rw [this.1], this.2⟩
  | .cls s, .seq _ _, _, we, _, _, _, h => exact absurd h (cls_not40 we.1 we.2 x _)
  | .cls s, .alt _ _, _, we, _, _, _, h => exact absurd h (cls_not40 we.1 we.2 x _)
  | .seq _ _, .empty, _, _, _, _, _, h => exact absurd h (by simp [Ex.item, Ex.isSeq, Ex.isAlt, roundL, Ex.text])
  | .seq _ _, .eps, _, we, _, _, _, h => exact absurd h (group_not_eps we x y)
  | .seq _ _, .cls t, _, _, wf, _, _, h => exact absurd h.symm (cls_not40 wf.1 wf.2 y _)
  | .seq a b, .seq c d, he, we, wf, _, _, h => exact group_pre H (by simpa [Ex.isSeq] using he) we wf h
  | .seq a b, .alt c d, he, we, wf, _, _, h => exact group_pre H (by simpa [Ex.isSeq] using he) we wf h
  | .alt _ _, .empty, _, _, _, _, _, h => exact absurd h (by simp [Ex.item, Ex.isSeq, Ex.isAlt, roundL, Ex.text])
  | .alt _ _, .eps, _, we, _, _, _, h => exact absurd h (group_not_eps we x y)
  | .alt _ _, .cls t, _, _, wf, _, _, h => exact absurd h.symm (cls_not40 wf.1 wf.2 y _)
  | .alt a b, .seq c d, he, we, wf, _, _, h => exact group_pre H (by simpa [Ex.isAlt] using he) we wf h
  | .alt a b, .alt c d, he, we, wf, _, _, h => exact group_pre H (by simpa [Ex.isAlt] using he) we wf h
theorem item_pre {N : Nat} (H : TP N) {e f : Ex} (he : e.size ≤ N ∨ (e.isSeq = false ∧ e.isAlt = false ∧ e.size ≤ N + 1)) (we : e.Wf) (wf : f.Wf) {x y : List UInt8} (hx : NoStar x) (hy : NoStar y) (h : e.item ++ x = f.item ++ y) : e = f ∧ x = y := by
  rw [item_base e, item_base f, List.append_assoc, List.append_assoc] at h
  have hs := base_size e
  have hb : e.base.size ≤ N ∨ (e.base.isSeq = false ∧ e.base.isAlt = false) := by
    rcases he with he | ⟨h1, h2, h3⟩
    · exact .inl (by omega)
    · cases e with
      | star a =>
        refine .inl ?_
        have : (Ex.star a).stars = a.stars + 1 := rfl
        omega
      | _ => exact .inr ⟨h1, h2⟩
  have h1 := base_pre H e.base f.base hb (base_wf e we) (base_wf f wf) (base_star e) (base_star f) h
  have h2 := stars_pre _ _ _ _ hx hy h1.2
  exact ⟨base_inj e f h1.1 h2.1, h2.2⟩
theorem part_pre {N : Nat} (H : TP N) : ∀ (e f : Ex) (x y : List UInt8), (e.size ≤ N ∨ (e.isAlt = false ∧ e.size ≤ N + 1)) → e.Wf → f.Wf → Term1 x → Term1 y → e.part ++ x = f.part ++ y → e = f ∧ x = y
  | .seq a b, f, x, y, he, we, wf, hx, hy, h => by
    have hz : (Ex.seq a b).size = 1 + a.size + b.size := rfl
    have ha : a.size ≤ N := by omega
    have hb : b.size ≤ N := by omega
    rw [part_seq, List.append_assoc] at h
    by_cases hf : f.isSeq = true
    · match f, hf, wf, h with
      | .seq c d, _, wf, h =>
        rw [part_seq, List.append_assoc] at h
        have h1 := item_pre H (.inl ha) we.1 wf.1 (noStar_part we.2 x) (noStar_part wf.2 y) h
        have h2 := part_pre H b d x y (.inl hb) we.2 wf.2 hx hy h1.2
        exact ⟨by rw [h1.1, h2.1], h2.2⟩
    · rw [part_item (e := f) (by simpa using hf)] at h
      have h1 := item_pre H (.inl ha) we.1 wf (noStar_part we.2 x) hy.noStar h
      exact (term_not_part we.2 hy h1.2).elim
  | .empty, f, x, y, he, we, wf, hx, hy, h => part_one H rfl he we wf hx hy h
  | .eps, f, x, y, he, we, wf, hx, hy, h => part_one H rfl he we wf hx hy h
  | .cls _, f, x, y, he, we, wf, hx, hy, h => part_one H rfl he we wf hx hy h
  | .alt _ _, f, x, y, he, we, wf, hx, hy, h => part_one H rfl he we wf hx hy h
  | .star _, f, x, y, he, we, wf, hx, hy, h => part_one H rfl he we wf hx hy h
where
  part_one {N : Nat} (H : TP N) {e f : Ex} {x y : List UInt8} (hse : e.isSeq = false) (he : e.size ≤ N ∨ (e.isAlt = false ∧ e.size ≤ N + 1)) (we : e.Wf) (wf : f.Wf) (hx : Term1 x) (hy : Term1 y) (h : e.part ++ x = f.part ++ y) : e = f ∧ x = y := by
    rw [part_item hse] at h
    have he' : e.size ≤ N ∨ (e.isSeq = false ∧ e.isAlt = false ∧ e.size ≤ N + 1) := by
      rcases he with he | ⟨h1, h2⟩
      · exact .inl he
      · exact .inr ⟨hse, h1, h2⟩
    by_cases hf : f.isSeq = true
    · match f, hf, wf, h with
      | .seq c d, _, wf, h =>
        rw [part_seq, List.append_assoc] at h
        have h1 := item_pre H he' we wf.1 hx.noStar (noStar_part wf.2 y) h
        exact (term_not_part wf.2 hx h1.2.symm).elim
    · rw [part_item (by simpa using hf)] at h
      exact item_pre H he' we wf hx.noStar hy.noStar h
theorem Term0.one {x : List UInt8} (h : Term0 x) : Term1 x := by
  rcases h with h | h
  · exact .inl h
  · exact .inr (.inl h)
theorem text_pre (N : Nat) : TP N := by
  induction N with
  | zero =>
    intro e f x y he
    have : 0 < e.size := by cases e <;> simp [Ex.size] <;> omega
    omega
  | succ N H =>
    intro e f x y he we wf hx hy h
    by_cases hea : e.isAlt = true
    · match e, hea, he, we, h with
      | .alt a b, _, he, we, h =>
        have hz : (Ex.alt a b).size = 1 + a.size + b.size := rfl
        rw [text_alt, List.append_assoc, List.cons_append] at h
        by_cases hfa : f.isAlt = true
        · match f, hfa, wf, h with
          | .alt c d, _, wf, h =>
            rw [text_alt, List.append_assoc, List.cons_append] at h
            have h1 := part_pre H a c _ _ (.inl (by omega)) we.1 wf.1 (.inr (.inr ⟨_, rfl⟩)) (.inr (.inr ⟨_, rfl⟩)) h
            have h2 := H b d x y (by omega) we.2 wf.2 hx hy (by simpa using h1.2)
            exact ⟨by rw [h1.1, h2.1], h2.2⟩
        · rw [← part_text (e := f) (by simpa using hfa)] at h
          have h1 := part_pre H a f _ _ (.inl (by omega)) we.1 wf (.inr (.inr ⟨_, rfl⟩)) hy.one h
          rcases hy with hy | ⟨t, hy⟩
          · rw [hy] at h1; simp at h1
          · rw [hy] at h1; simp at h1
    · rw [← part_text (e := e) (by simpa using hea)] at h
      by_cases hfa : f.isAlt = true
      · match f, hfa, wf, h with
        | .alt c d, _, wf, h =>
          rw [text_alt, List.append_assoc, List.cons_append] at h
          have h1 := part_pre H e c _ _ (.inr ⟨by simpa using hea, he⟩) we wf.1 hx.one (.inr (.inr ⟨_, rfl⟩)) h
          rcases hx with hx | ⟨t, hx⟩
          · rw [hx] at h1; simp at h1
          · rw [hx] at h1; simp at h1
      · rw [← part_text (e := f) (by simpa using hfa)] at h
        exact part_pre H e f x y (.inr ⟨by simpa using hea, he⟩) we wf hx.one hy.one h
/-- Unlike expressions that may be have unlike texts. -/
theorem text_inj {e f : Ex} (we : e.Wf) (wf : f.Wf) (h : e.text = f.text) : e = f :=
  (text_pre e.size e f [] [] (Nat.le_refl _) we wf (.inl rfl) (.inl rfl) (by simpa using h)).1
theorem round_length (s : List UInt8) (b : Bool) : (roundL s b).length ≤ s.length + 2 := by
  unfold roundL; split <;> simp
theorem text_length : ∀ e : Ex, e.text.length ≤ 2010 * e.size
  | .empty => by simp [Ex.text, Ex.size]
  | .eps => by simp [Ex.text, Ex.size]
  | .cls s => by have := textW_length s; simp [Ex.text, Ex.size]; omega
  | .seq a b => by
    have h1 := text_length a
    have h2 := text_length b
    have h3 := round_length a.text (a.isSeq || a.isAlt)
    have h4 := round_length b.text b.isAlt
    simp [Ex.text, Ex.size]; omega
  | .alt a b => by
    have h1 := text_length a
    have h2 := text_length b
    have h3 := round_length a.text a.isAlt
    simp [Ex.text, Ex.size]; omega
  | .star a => by
    have h1 := text_length a
    have h3 := round_length a.text (a.isSeq || a.isAlt)
    simp [Ex.text, Ex.size]; omega
theorem text_ne {e : Ex} (h : e.Wf) : e.text ≠ [] := by
  obtain ⟨c, t, e1, _⟩ := text_start e h
  rw [e1]; simp
end Go.Proofs.YtdkdgbiagjflgaaDoor
/- A block with room for expressions, six cells each: stores into it. -/
namespace Go.Proofs.YtdkdgbiagjflgaaDoor
open Go.RowKit
/-- A block of n cells. -/
def Room (w : World) (g n : Nat) : Prop := ∃ arr, w.heap[g]? = some (.cells arr 30) ∧ arr.size = n
theorem Room.lt {w : World} {g n : Nat} (h : Room w g n) : g < w.heap.size := by
  obtain ⟨arr, h, _⟩ := h
  exact (Array.getElem?_eq_some_iff.1 h).1
theorem Room.of {w w' : World} {g n : Nat} (h : Room w g n) (e : w'.heap[g]? = w.heap[g]?) : Room w' g n := by
  obtain ⟨arr, h, hs⟩ := h
  exact ⟨arr, e.trans h, hs⟩
theorem Room.cells {w : World} {g n : Nat} (h : Room w g n) (o : Nat) (ho : o < n) : (∃ v, w.cell? ⟨g, o, none⟩ = some v) ∧ w.frozen? ⟨g, o, none⟩ = false := by
  obtain ⟨arr, h, hs⟩ := h
  refine ⟨⟨arr[o]'(by omega), ?_⟩, Lib.frozen_of_heap h o⟩
  rw [Lib.cell_of_heap h]
  simp [hs, ho]
theorem setCell_at {w : World} {g : Nat} {arr : Array Value} (h : w.heap[g]? = some (.cells arr 30)) (o : Nat) (y : Value) : (w.setCell ⟨g, o, none⟩ y).heap[g]? = some (.cells (arr.setIfInBounds o y) 30) := by
  simp [World.setCell, Array.getElem?_modify, h]
def put6 (w : World) (g off : Nat) (y0 y1 y2 y3 y4 y5 : Value) : World := (((((w.setCell ⟨g, off, none⟩ y0).setCell ⟨g, off + 1, none⟩ y1).setCell ⟨g, off + 2, none⟩ y2).setCell ⟨g, off + 3, none⟩ y3).setCell ⟨g, off + 4, none⟩ y4).setCell ⟨g, off + 5, none⟩ y5
theorem put6_size (w : World) (g off : Nat) (y0 y1 y2 y3 y4 y5 : Value) : (put6 w g off y0 y1 y2 y3 y4 y5).heap.size = w.heap.size := by simp [put6, World.setCell]
theorem put6_other (w : World) (g off : Nat) (y0 y1 y2 y3 y4 y5 : Value) {b : Nat} (hb : b ≠ g) : (put6 w g off y0 y1 y2 y3 y4 y5).heap[b]? = w.heap[b]? := by
  unfold put6
  rw [Below.heap_setCell _ _ _ _ hb, Below.heap_setCell _ _ _ _ hb, Below.heap_setCell _ _ _ _ hb, Below.heap_setCell _ _ _ _ hb, Below.heap_setCell _ _ _ _ hb, Below.heap_setCell _ _ _ _ hb]
theorem put6_at {w : World} {g n off : Nat} (h : Room w g n) (ho : off + 6 ≤ n) (y0 y1 y2 y3 y4 y5 : Value) :
    Room (put6 w g off y0 y1 y2 y3 y4 y5) g n ∧
    ((put6 w g off y0 y1 y2 y3 y4 y5).cell? ⟨g, off, none⟩ = some y0 ∧ (put6 w g off y0 y1 y2 y3 y4 y5).cell? ⟨g, off + 1, none⟩ = some y1 ∧ (put6 w g off y0 y1 y2 y3 y4 y5).cell? ⟨g, off + 2, none⟩ = some y2 ∧ (put6 w g off y0 y1 y2 y3 y4 y5).cell? ⟨g, off + 3, none⟩ = some y3 ∧ (put6 w g off y0 y1 y2 y3 y4 y5).cell? ⟨g, off + 4, none⟩ = some y4 ∧ (put6 w g off y0 y1 y2 y3 y4 y5).cell? ⟨g, off + 5, none⟩ = some y5) ∧
    ∀ o, o < off ∨ off + 6 ≤ o → (put6 w g off y0 y1 y2 y3 y4 y5).cell? ⟨g, o, none⟩ = w.cell? ⟨g, o, none⟩ := by
  obtain ⟨arr, h, hs⟩ := h
  have e := setCell_at (setCell_at (setCell_at (setCell_at (setCell_at (setCell_at h off y0) (off + 1) y1) (off + 2) y2) (off + 3) y3) (off + 4) y4) (off + 5) y5
  have c := fun o => Lib.cell_of_heap (w := put6 w g off y0 y1 y2 y3 y4 y5) (j := o) e
  refine ⟨⟨_, e, by simp [hs]⟩, ⟨?_, ?_, ?_, ?_, ?_, ?_⟩, ?_⟩
  · rw [c]; simp [Array.getElem?_setIfInBounds, hs]; omega
  · rw [c]; simp [Array.getElem?_setIfInBounds, hs]; omega
  · rw [c]; simp [Array.getElem?_setIfInBounds, hs]; omega
  · rw [c]; simp [Array.getElem?_setIfInBounds, hs]; omega
  · rw [c]; simp [Array.getElem?_setIfInBounds, hs]; omega
  · rw [c]; simp [Array.getElem?_setIfInBounds, hs]; omega
  · intro o h'
    rw [c, Lib.cell_of_heap h]
    have n0 : ¬ off = o := by omega
    have n1 : ¬ off + 1 = o := by omega
    have n2 : ¬ off + 2 = o := by omega
    have n3 : ¬ off + 3 = o := by omega
    have n4 : ¬ off + 4 = o := by omega
    have n5 : ¬ off + 5 = o := by omega
    simp [n0, n1, n2, n3, n4, n5]
theorem put6_below {w w' : World} {B g : Nat} (h : Below B w w') (hg : B ≤ g) (off : Nat) (y0 y1 y2 y3 y4 y5 : Value) : Below B w (put6 w' g off y0 y1 y2 y3 y4 y5) :=
  (((((h.setCell (p := ⟨g, off, none⟩) hg _).setCell (p := ⟨g, off + 1, none⟩) hg _).setCell (p := ⟨g, off + 2, none⟩) hg _).setCell (p := ⟨g, off + 3, none⟩) hg _).setCell (p := ⟨g, off + 4, none⟩) hg _).setCell (p := ⟨g, off + 5, none⟩) hg _
/-- A node whose cells stay, and whose rows lie elsewhere, stays. -/
theorem NodeAt.cells {ok ok' : Nat → Prop} {w w' : World} {b off : Nat} {r : Rx} (h : NodeAt ok w b off r) (hk : Kept ok ok' w w') (hc : ∀ o, off ≤ o → o < off + 6 → w'.cell? ⟨b, o, none⟩ = w.cell? ⟨b, o, none⟩) : NodeAt ok' w' b off r := by
  obtain ⟨k, s, ks⟩ := r
  unfold NodeAt at h ⊢
  obtain ⟨h0, hs, ⟨c0, c1, c2, c3, c4⟩, al, cap, c5, h1, h2, h3⟩ := h
  refine ⟨h0, hs, ⟨by rw [hc _ (by omega) (by omega)]; exact c0, by rw [hc _ (by omega) (by omega)]; exact c1, by rw [hc _ (by omega) (by omega)]; exact c2, by rw [hc _ (by omega) (by omega)]; exact c3, by rw [hc _ (by omega) (by omega)]; exact c4⟩, al, cap, by rw [hc _ (by omega) (by omega)]; exact c5, h1, h2, ?_⟩
  rcases h3 with h3 | ⟨b', off', e1, e2, e3, e4⟩
  · exact .inl h3
  · have hh := hk.2 b' e2 e3
    exact .inr ⟨b', off', e1, Nat.lt_of_lt_of_le e2 hk.1, hh.1, NodesAt.go hk ks hh.2 e4⟩
/-- One node more in a row: the rows of all nodes lie elsewhere. -/
theorem nodes_push {ok : Nat → Prop} {w : World} {g n : Nat} {l : List Rx} {r : Rx} {x0 x1 x2 x3 x4 x5 : Value} (hr : Room w g n) (hl : (l.length + 1) * 6 ≤ n) (hg : ¬ ok g) (h : NodesAt ok w g 0 l) (hv : ReAt ok w (.agg #[x0, x1, x2, x3, x4, x5]) r) :
    NodesAt ok (put6 w g (l.length * 6) x0 x1 x2 x3 x4 x5) g 0 (l ++ [r]) := by
  obtain ⟨hR, ⟨c0, c1, c2, c3, c4, c5⟩, hfar⟩ := put6_at hr (off := l.length * 6) (by omega) x0 x1 x2 x3 x4 x5
  have hk : Kept ok ok w (put6 w g (l.length * 6) x0 x1 x2 x3 x4 x5) := ⟨by rw [put6_size]; exact Nat.le_refl _, fun b _ hb => ⟨hb, put6_other _ _ _ _ _ _ _ _ _ (fun e => hg (e ▸ hb))⟩⟩
  refine nodesAt_of fun i hi => ?_
  by_cases e : i < l.length
  · rw [List.getElem_append_left e]
    exact (nodesAt_get h i e).cells hk fun o h1 h2 => hfar o (.inl (by omega))
  · have : i = l.length := by simp at hi; omega
    subst this
    rw [List.getElem_append_right (Nat.le_refl _)]
    simp only [Nat.sub_self, List.getElem_cons_zero, Nat.zero_add]
    exact node_at (hv.go hk) c0 c1 c2 c3 c4 c5
theorem room_made (w : World) (z : Array Value) (n : Nat) : Room (w.alloc (.cells (madeCells z n) 30)) w.heap.size n := ⟨_, blk_new w _, size_madeCells z n⟩
def zeroR : Array Value := #[.int .u8 0, .int .u64 0, .int .u64 0, .int .u64 0, .int .u64 0, .slice none 0 0]
theorem make_re (n : Nat) (hn : n < 2199023255552) (u : World) : (Instr.makeSlice 22 (.int .i64 (n : Int)) (.int .i64 (n : Int))).run Tryd.prog u =
    .ok (.slice (some ⟨u.heap.size, 0, none⟩) n n) (u.alloc (.cells (madeCells zeroR (n * 6)) 30)) := by
  obtain ⟨i0, hi, hz0, hz1, hz2⟩ := info_parts infoR
  have h := run_make (P := Tryd.prog) u 22 30 i0 _ Tryd.underlying22 hi hz0 .i64 .i64 (n : Int) (n : Int) (by omega) (Int.le_refl _) (by rw [hz2]; omega) (by omega)
  simpa [hz1, Value.cells, zeroR] using h
end Go.Proofs.YtdkdgbiagjflgaaDoor
/- rex.clone. -/
namespace Go.Proofs.YtdkdgbiagjflgaaDoor
open Go.RowKit
def nilBlk : Obj := .cells #[.int .u8 0, .int .u64 0, .int .u64 0, .int .u64 0, .int .u64 0, .slice none 0 0] 30
def reBlk (k a b c d : Nat) (sl : Value) : Obj := .cells #[.int .u8 k, .int .u64 a, .int .u64 b, .int .u64 c, .int .u64 d, sl] 30
def cloneInv (k a b c d : Nat) (sl : Value) (ks : List Rx) (w : World) (y : Value) (wr : World) : Prop := ∃ i : Nat, i ≤ ks.length ∧ y = .int .i64 i ∧
  wr.heap[w.heap.size]? = some (reBlk k a b c d sl) ∧ wr.heap[w.heap.size + 1]? = some nilBlk ∧ Room wr (w.heap.size + 2) (ks.length * 6) ∧
  NodesAt (New (w.heap.size + 3)) wr (w.heap.size + 2) 0 (ks.take i) ∧ Below w.heap.size w wr
set_option maxHeartbeats 4000000 in
theorem clone_any (N : Nat) : ∀ (r : Rx), r.size ≤ N → ∀ (ok : Nat → Prop) (v : Value) (w : World), ReAt ok w v r →
    Calls Tryd.prog 36 #[v] w (NewPost r w) := by
  induction N with
  | zero => intro r h; have := r.size_pos; omega
  | succ N ih =>
    rintro ⟨k, s, ks⟩ hN ok v w hR
    obtain ⟨hk, hs, al, cap, rfl, hcap, hmax, hrow⟩ := hR
    have hN' : Rx.sizes ks ≤ N := by simp [Rx.size] at hN; omega
    have IH := Lib.hid ih
    have HR := Lib.hid hrow
    obtain ⟨sa, sb, sc, sd⟩ := s
    clear ih hrow hN
    by_cases hks : ks = []
    · subst hks
      go_enter Tryd.func36, Tryd.ntmps36
      go_wp2
      refine ret_re (blk_at _ _ (by simp)) Tryd.results36 rfl rfl ⟨_, rfl, ?_, ((Below.refl _ w).alloc (Nat.le_refl _) _).alloc (by simp) _⟩
      exact bareAt _ _ k ⟨sa, sb, sc, sd⟩ hk hs
    · have hpos : 0 < ks.length := List.length_pos_iff.2 hks
      have e0 : ((ks.length : Int) == 0) = false := by simp; omega
      have hmk := make_re ks.length hmax
      clear hks
      go_enter Tryd.func36, Tryd.ntmps36
      go_wp2
      go_loopw [19] (fun y wr => cloneInv k sa sb sc sd (.slice al ks.length cap) ks w y wr) (fun y _ => ks.length - (intOf y).toNat)
      case atStart =>
        refine ⟨0, Nat.zero_le _, rfl, ?_, ?_, ?_, by simp only [List.take_zero]; unfold NodesAt; trivial, (((Below.refl _ w).alloc (Nat.le_refl _) _).alloc (by simp) _).alloc (by simp; omega) _⟩
        · exact (Below.heap_alloc _ _ _ (by simp; omega)).trans ((Below.heap_alloc _ _ _ (by simp)).trans (blk_new w _))
        · exact (Below.heap_alloc _ _ _ (by simp)).trans (blk_at _ _ (by simp))
        · have := room_made ((w.alloc (reBlk k sa sb sc sd (.slice al ks.length cap))).alloc nilBlk) zeroR (ks.length * 6)
          simpa [reBlk, nilBlk] using this
      case round =>
        obtain ⟨i, hi, rfl, hb0, hb1, hroom, hnodes, hb⟩ := hrel
        have HB0 := Lib.hid hb0
        have HB1 := Lib.hid hb1
        have HN := Lib.hid hnodes
        have HM := Lib.hid hroom
        clear hb0 hb1 hnodes hroom
        by_cases hlt : i < ks.length
        · obtain ⟨b, off, hab, hblt, hnode⟩ := HR.out.kid hlt
          subst hab
          have hkid := NodeAt.below hb _ hblt hnode
          have hkz := size_kid hlt
          have htk : ks.take (i + 1) = ks.take i ++ [ks[i]] := List.take_succ_eq_append_getElem hlt
          have hlen : (ks.take i).length = i := by simp; omega
          have HTK := Lib.hid htk
          have HLEN := Lib.hid hlen
          clear htk hlen
          generalize ks[i] = kid at *
          obtain ⟨k', ⟨ta, tb, tc, td⟩, ks'⟩ := kid
          obtain ⟨al', cap', ⟨c0, c1, c2, c3, c4, c5⟩, hre⟩ := hkid.read
          simp only at c0 c1 c2 c3 c4 c5
          have HRE := Lib.hid hre
          clear hkid hnode hre
          go_wp2_with fail
          refine (IH.out _ (by omega) ok _ _ (HRE.out.below ((Below.refl _ wr).alloc (Nat.le_refl _) _))).mono ?_
          rintro e w3 ⟨v, rfl, hv, hb3⟩
          obtain ⟨x0, x1, x2, x3, x4, bl, n', cp, rfl⟩ := cells_re hv
          have hgk := HM.out.lt
          have hbr : Below wr.heap.size wr w3 := ((Below.refl _ wr).alloc (Nat.le_refl _) _).trans (hb3.mono (by simp))
          have hroom : Room w3 (w.heap.size + 1 + 1) (ks.length * 6) := HM.out.of (hbr.block _ hgk)
          have hnodes : NodesAt (New (w.heap.size + 3)) w3 (w.heap.size + 1 + 1) 0 (ks.take i) := NodesAt.below hbr _ hgk HN.out
          have hv3 := hv.imp (ok' := New (w.heap.size + 3)) fun b _ h => by
            unfold New at h ⊢; simp at h; omega
          have hlen := HLEN.out
          have hpush := nodes_push hroom (by rw [hlen]; omega) (by unfold New; omega) hnodes hv3
          rw [hlen, ← HTK.out] at hpush
          have hput := (put6_at hroom (off := i * 6) (by omega) (.int .u8 x0) (.int .u64 x1) (.int .u64 x2) (.int .u64 x3) (.int .u64 x4) (.slice bl n' cp)).1
          have hbp := put6_below (hb.trans (hbr.mono hb.size)) (g := w.heap.size + 1 + 1) (by omega) (i * 6) (.int .u8 x0) (.int .u64 x1) (.int .u64 x2) (.int .u64 x3) (.int .u64 x4) (.slice bl n' cp)
          have ho := fun b (h : b ≠ w.heap.size + 1 + 1) => put6_other w3 (w.heap.size + 1 + 1) (i * 6) (.int .u8 x0) (.int .u64 x1) (.int .u64 x2) (.int .u64 x3) (.int .u64 x4) (.slice bl n' cp) h
          have h0 := (ho w.heap.size (by omega)).trans ((hbr.block _ (by omega)).trans HB0.out)
          have h1 := (ho (w.heap.size + 1) (by omega)).trans ((hbr.block _ (by omega)).trans HB1.out)
          obtain ⟨⟨z0, q0⟩, f0⟩ := hroom.cells (i * 6) (by omega)
          obtain ⟨⟨z1, q1⟩, f1⟩ := hroom.cells (i * 6 + 1) (by omega)
          obtain ⟨⟨z2, q2⟩, f2⟩ := hroom.cells (i * 6 + 2) (by omega)
          obtain ⟨⟨z3, q3⟩, f3⟩ := hroom.cells (i * 6 + 3) (by omega)
          obtain ⟨⟨z4, q4⟩, f4⟩ := hroom.cells (i * 6 + 4) (by omega)
          obtain ⟨⟨z5, q5⟩, f5⟩ := hroom.cells (i * 6 + 5) (by omega)
          unfold put6 at hpush hput hbp h0 h1
          have HPUSH := Lib.hid hpush
          have HPUT := Lib.hid hput
          have HBP := Lib.hid hbp
          have H0 := Lib.hid h0
          have H1 := Lib.hid h1
          clear hv hb3 hbr hroom hnodes hv3 hlen hpush hput hbp ho h0 h1 c0 c1 c2 c3 c4 c5
          go_wp2
          exact ⟨⟨i + 1, by omega, by go_num, H0.out, H1.out, HPUT.out, HPUSH.out, HBP.out⟩, by simp [intOf]; omega⟩
        · have he : ks.take i = ks := List.take_of_length_le (by omega)
          rw [he] at HN
          obtain ⟨d0, d1, d2, d3, d4, d5, f0, f1, f2, f3, f4, f5⟩ := cellsR HB0.out
          obtain ⟨g0, g1, g2, g3, g4, g5, p0, p1, p2, p3, p4, p5⟩ := cellsR HB1.out
          have hgk := HM.out.lt
          have hb4 : (wr.setCell ⟨w.heap.size, 5, none⟩ (.slice (some ⟨w.heap.size + 1 + 1, 0, none⟩) ks.length ks.length)).heap[w.heap.size + 1]? = some nilBlk := (Below.heap_setCell _ _ _ _ (by simp)).trans HB1.out
          have hp := putR hb4 (.int .u8 k) (.int .u64 sa) (.int .u64 sb) (.int .u64 sc) (.int .u64 sd) (.slice (some ⟨w.heap.size + 1 + 1, 0, none⟩) ks.length ks.length)
          have hbb := putB (hb.setCell (p := ⟨w.heap.size, 5, none⟩) (Nat.le_refl _) (.slice (some ⟨w.heap.size + 1 + 1, 0, none⟩) ks.length ks.length)) (by omega : w.heap.size ≤ w.heap.size + 1) (.int .u8 k) (.int .u64 sa) (.int .u64 sb) (.int .u64 sc) (.int .u64 sd) (.slice (some ⟨w.heap.size + 1 + 1, 0, none⟩) ks.length ks.length)
          have hfar : ∀ b, b ≠ w.heap.size → b ≠ w.heap.size + 1 → (putW (wr.setCell ⟨w.heap.size, 5, none⟩ (.slice (some ⟨w.heap.size + 1 + 1, 0, none⟩) ks.length ks.length)) (w.heap.size + 1) (.int .u8 k) (.int .u64 sa) (.int .u64 sb) (.int .u64 sc) (.int .u64 sd) (.slice (some ⟨w.heap.size + 1 + 1, 0, none⟩) ks.length ks.length)).heap[b]? = wr.heap[b]? := by
            intro b n0 n1
            unfold putW
            rw [Below.heap_setCell _ _ _ _ n1, Below.heap_setCell _ _ _ _ n1, Below.heap_setCell _ _ _ _ n1, Below.heap_setCell _ _ _ _ n1, Below.heap_setCell _ _ _ _ n1, Below.heap_setCell _ _ _ _ n1, Below.heap_setCell _ _ _ _ n0]
          have hsz : (putW (wr.setCell ⟨w.heap.size, 5, none⟩ (.slice (some ⟨w.heap.size + 1 + 1, 0, none⟩) ks.length ks.length)) (w.heap.size + 1) (.int .u8 k) (.int .u64 sa) (.int .u64 sb) (.int .u64 sc) (.int .u64 sd) (.slice (some ⟨w.heap.size + 1 + 1, 0, none⟩) ks.length ks.length)).heap.size = wr.heap.size := by simp [putW, World.setCell]
          have hrow : RowAt (New w.heap.size) (putW (wr.setCell ⟨w.heap.size, 5, none⟩ (.slice (some ⟨w.heap.size + 1 + 1, 0, none⟩) ks.length ks.length)) (w.heap.size + 1) (.int .u8 k) (.int .u64 sa) (.int .u64 sb) (.int .u64 sc) (.int .u64 sd) (.slice (some ⟨w.heap.size + 1 + 1, 0, none⟩) ks.length ks.length)) (some ⟨w.heap.size + 1 + 1, 0, none⟩) ks := by
            refine .inr ⟨_, _, rfl, by rw [hsz]; exact hgk, by unfold New; omega, NodesAt.go (ok := New (w.heap.size + 3)) ⟨by rw [hsz]; exact Nat.le_refl _, fun b _ h => ?_⟩ ks (hfar _ (by omega) (by omega)) HN.out⟩
            unfold New at h
            exact ⟨by unfold New; omega, hfar b (by omega) (by omega)⟩
          unfold putW at hp hbb hrow
          have HP := Lib.hid hp
          have HBB := Lib.hid hbb
          have HROW := Lib.hid hrow
          clear hp hbb hrow hfar hsz hb4
          go_wp2
          exact ret_re HP.out Tryd.results36 rfl rfl ⟨_, rfl, ⟨hk, hs, _, _, rfl, Nat.le_refl _, hmax, HROW.out⟩, HBB.out⟩
theorem cloneR (r : Rx) {ok : Nat → Prop} (v : Value) (w : World) (h : ReAt ok w v r) : Calls Tryd.prog 36 #[v] w (NewPost r w) := clone_any r.size r (Nat.le_refl _) ok v w h
end Go.Proofs.YtdkdgbiagjflgaaDoor
/- rex.chain, Then, Or, Many. -/
namespace Go.Proofs.YtdkdgbiagjflgaaDoor
open Go.RowKit
def foldR (k o : Nat) : List Rx → Rx
  | [] => .node o Ws.nil []
  | [r] => r
  | r :: r' :: rs => .node k Ws.nil [r, foldR k o (r' :: rs)]
theorem foldR_cons (k o : Nat) (r : Rx) {l : List Rx} (h : l ≠ []) : foldR k o (r :: l) = .node k Ws.nil [r, foldR k o l] := by
  cases l with
  | nil => exact absurd rfl h
  | cons a t => rfl
/-- New blocks but two. -/
def Own (n g b : Nat) : Prop := n + 1 ≤ b ∧ b ≠ g
def chainInv (k o : Nat) (l : List Rx) (w : World) (g : Nat) (y : Value) (wr : World) : Prop := ∃ (j : Nat) (v : Value) (x0 x1 x2 x3 x4 : Int) (al : Option Addr) (n cap : Nat), j < l.length ∧ y = .int .i64 ((j : Int) - 1) ∧
  v = .agg #[.int .u8 x0, .int .u64 x1, .int .u64 x2, .int .u64 x3, .int .u64 x4, .slice al n cap] ∧
  wr.heap[g]? = some (.cells #[.int .u8 x0, .int .u64 x1, .int .u64 x2, .int .u64 x3, .int .u64 x4, .slice al n cap] 30) ∧ wr.heap[w.heap.size]? = some nilBlk ∧
  ReAt (Own w.heap.size g) wr v (foldR k o (l.drop j)) ∧ Below w.heap.size w wr
theorem putW_size (w : World) (g : Nat) (y0 y1 y2 y3 y4 y5 : Value) : (putW w g y0 y1 y2 y3 y4 y5).heap.size = w.heap.size := by simp [putW, World.setCell]
theorem putW_other (w : World) (g : Nat) (y0 y1 y2 y3 y4 y5 : Value) {b : Nat} (h : b ≠ g) : (putW w g y0 y1 y2 y3 y4 y5).heap[b]? = w.heap[b]? := by
  unfold putW
  rw [Below.heap_setCell _ _ _ _ h, Below.heap_setCell _ _ _ _ h, Below.heap_setCell _ _ _ _ h, Below.heap_setCell _ _ _ _ h, Below.heap_setCell _ _ _ _ h, Below.heap_setCell _ _ _ _ h]
/-- The world behind a round of chain. -/
def chainW (w' : World) (g k : Nat) (z0 z1 z2 z3 z4 z5 y0 y1 y2 y3 y4 y5 : Value) : World :=
  (putW w' g (.int .u8 k) (.int .u64 0) (.int .u64 0) (.int .u64 0) (.int .u64 0) (.slice (some ⟨w'.heap.size, 0, none⟩) 2 2)).alloc (.cells #[z0, z1, z2, z3, z4, z5, y0, y1, y2, y3, y4, y5] 30)
theorem chain_step {n0 g k : Nat} {w wr w' : World} {z0 z1 z2 z3 z4 z5 y0 y1 y2 y3 y4 y5 : Value} {r t : Rx} (hk : k < 256) (hn0 : n0 + 1 ≤ g)
    (hG : wr.heap[g]? = some (.cells #[y0, y1, y2, y3, y4, y5] 30)) (hN : wr.heap[n0]? = some nilBlk) (hv : ReAt (Own n0 g) wr (.agg #[y0, y1, y2, y3, y4, y5]) t)
    (hv2 : ReAt (New wr.heap.size) w' (.agg #[z0, z1, z2, z3, z4, z5]) r) (hb2 : Below wr.heap.size wr w') (hb : Below n0 w wr) :
    (chainW w' g k z0 z1 z2 z3 z4 z5 y0 y1 y2 y3 y4 y5).heap[g]? = some (.cells #[.int .u8 k, .int .u64 0, .int .u64 0, .int .u64 0, .int .u64 0, .slice (some ⟨w'.heap.size, 0, none⟩) 2 2] 30) ∧
    (chainW w' g k z0 z1 z2 z3 z4 z5 y0 y1 y2 y3 y4 y5).heap[n0]? = some nilBlk ∧
    ReAt (Own n0 g) (chainW w' g k z0 z1 z2 z3 z4 z5 y0 y1 y2 y3 y4 y5) (.agg #[.int .u8 k, .int .u64 0, .int .u64 0, .int .u64 0, .int .u64 0, .slice (some ⟨w'.heap.size, 0, none⟩) 2 2]) (.node k Ws.nil [r, t]) ∧
    Below n0 w (chainW w' g k z0 z1 z2 z3 z4 z5 y0 y1 y2 y3 y4 y5) := by
  have hg : g < wr.heap.size := (Array.getElem?_eq_some_iff.1 hG).1
  have hs := hb2.size
  have hG' : w'.heap[g]? = some (.cells #[y0, y1, y2, y3, y4, y5] 30) := (hb2.block g hg).trans hG
  have hsz := putW_size w' g (.int .u8 k) (.int .u64 0) (.int .u64 0) (.int .u64 0) (.int .u64 0) (.slice (some ⟨w'.heap.size, 0, none⟩) 2 2)
  have hold : ∀ b, b < w'.heap.size → b ≠ g → (chainW w' g k z0 z1 z2 z3 z4 z5 y0 y1 y2 y3 y4 y5).heap[b]? = w'.heap[b]? := fun b h1 h2 =>
    (Below.heap_alloc _ _ _ (by rw [hsz]; exact h1)).trans (putW_other _ _ _ _ _ _ _ _ h2)
  have hsize : w'.heap.size ≤ (chainW w' g k z0 z1 z2 z3 z4 z5 y0 y1 y2 y3 y4 y5).heap.size := by
    unfold chainW; rw [World.size_alloc, hsz]; omega
  refine ⟨(Below.heap_alloc _ _ _ (by rw [hsz]; omega)).trans (putR hG' _ _ _ _ _ _), (hold n0 (by omega) (by omega)).trans ((hb2.block n0 (by omega)).trans hN), ?_, ?_⟩
  · refine ⟨hk, Ws.nil_ok, _, _, rfl, Nat.le_refl _, by simp, row_two (blk_at _ _ hsz.symm) ?_ ?_ ?_⟩
    · unfold Own; omega
    · refine hv2.go ⟨hsize, fun b h1 h2 => ⟨?_, hold b h1 ?_⟩⟩
      · unfold New at h2; unfold Own; omega
      · unfold New at h2; omega
    · refine hv.go ⟨Nat.le_trans hs hsize, fun b h1 h2 => ⟨h2, ?_⟩⟩
      rw [hold b (by omega) h2.2, hb2.block b h1]
  · have h1 : Below n0 w w' := hb.trans (hb2.mono (by omega))
    exact (putB h1 (by omega : n0 ≤ g) _ _ _ _ _ _).alloc (by rw [hsz]; omega) _
set_option maxHeartbeats 4000000 in
theorem chain_any {ok : Nat → Prop} (k o : Nat) (l : List Rx) (al : Option Addr) (cap : Nat) (w : World) (hk : k < 256) (ho : o < 256) (hlen : l.length < 2199023255552) (h : RowAt ok w al l) :
    Calls Tryd.prog 39 #[.int .u8 k, .int .u8 o, .slice al l.length cap] w (NewPost (foldR k o l) w) := by
  have HR := Lib.hid h
  clear h
  by_cases hl : l = []
  · subst hl
    go_enter Tryd.func39, Tryd.ntmps39
    go_wp2
    exact ret_re (blk_new w _) Tryd.results39 rfl rfl ⟨_, rfl, bareAt _ _ o Ws.nil ho Ws.nil_ok, (Below.refl _ w).alloc (Nat.le_refl _) _⟩
  · have hpos : 0 < l.length := List.length_pos_iff.2 hl
    have e0 : ((l.length : Int) == 0) = false := by simp; omega
    obtain ⟨b, off, hab, hblt, hnode⟩ := HR.out.kid (i := l.length - 1) (by omega)
    subst hab
    have hb0 := (Below.refl _ w).alloc (Nat.le_refl _) nilBlk
    have hkid := NodeAt.below hb0 _ hblt hnode
    have hdrop : l.drop (l.length - 1) = [l[l.length - 1]'(by omega)] := by
      rw [List.drop_eq_getElem_cons (by omega), List.drop_of_length_le (by omega)]
    have HD := Lib.hid hdrop
    clear hdrop hl
    generalize l[l.length - 1]'(by omega) = kid at *
    obtain ⟨k', ⟨ta, tb, tc, td⟩, ks'⟩ := kid
    obtain ⟨al', cap', ⟨c0, c1, c2, c3, c4, c5⟩, hre⟩ := hkid.read
    simp only at c0 c1 c2 c3 c4 c5
    unfold nilBlk at c0 c1 c2 c3 c4 c5
    have HRE := Lib.hid hre
    clear hkid hnode hre
    have q1 : (l.length : Int) - 1 = ((l.length - 1 : Nat) : Int) := by omega
    have q2 : ((l.length - 1 : Nat) : Int) < (l.length : Int) := by omega
    go_enter Tryd.func39, Tryd.ntmps39
    go_wp2_with fail
    refine (cloneR _ _ _ HRE.out).mono ?_
    rintro e w1 ⟨v, rfl, hv, hb1⟩
    obtain ⟨x0, x1, x2, x3, x4, bl, n', cp, rfl⟩ := cells_re hv
    have hsz1 : w.heap.size + 1 ≤ w1.heap.size := by have := hb1.size; simpa using this
    have hbw : Below w.heap.size w w1 := hb0.trans (hb1.mono (by simp))
    have hnb : w1.heap[w.heap.size]? = some nilBlk := (hb1.block _ (by simp)).trans (blk_new w _)
    have HV := Lib.hid hv
    clear hv hb1 c0 c1 c2 c3 c4 c5 HRE hb0
    have HBW := Lib.hid hbw
    have HNB := Lib.hid hnb
    clear hbw hnb
    go_wp2
    go_loopw [9] (fun y wr => chainInv k o l w w1.heap.size y wr) (fun y _ => (intOf y + 1).toNat)
    case atStart =>
      refine ⟨l.length - 1, _, x0, x1, x2, x3, x4, bl, n', cp, by omega, ?_, rfl, blk_new w1 _, (Below.heap_alloc _ _ _ (by omega)).trans HNB.out, ?_, HBW.out.alloc (by omega) _⟩
      · first | rfl | (congr 1; omega)
      · rw [HD.out]
        refine HV.out.go ⟨by simp, fun b hb h => ⟨?_, Below.heap_alloc _ _ _ hb⟩⟩
        unfold New at h; unfold Own
        simp at h; omega
    case round =>
      obtain ⟨j, v, y0, y1, y2, y3, y4, yl, yn, yc, hj, rfl, rfl, hg, hn, hv, hb⟩ := hrel
      have HG := Lib.hid hg
      have HN := Lib.hid hn
      have HV' := Lib.hid hv
      clear hg hn hv HV HBW HNB HD
      have hgs := (Array.getElem?_eq_some_iff.1 HG.out).1
      by_cases hj0 : j = 0
      · subst hj0
        obtain ⟨d0, e1, e2, e3, e4, e5, f0, f1, f2, f3, f4, f5⟩ := cellsR HG.out
        obtain ⟨g0, g1, g2, g3, g4, g5, p0, p1, p2, p3, p4, p5⟩ := cellsR HN.out
        have hp := putR HN.out (.int .u8 y0) (.int .u64 y1) (.int .u64 y2) (.int .u64 y3) (.int .u64 y4) (.slice yl yn yc)
        have hbb := putB hb (Nat.le_refl w.heap.size) (.int .u8 y0) (.int .u64 y1) (.int .u64 y2) (.int .u64 y3) (.int .u64 y4) (.slice yl yn yc)
        have hre : ReAt (New w.heap.size) (putW wr w.heap.size (.int .u8 y0) (.int .u64 y1) (.int .u64 y2) (.int .u64 y3) (.int .u64 y4) (.slice yl yn yc)) (.agg #[.int .u8 y0, .int .u64 y1, .int .u64 y2, .int .u64 y3, .int .u64 y4, .slice yl yn yc]) (foldR k o l) := by
          have h := HV'.out
          rw [List.drop_zero] at h
          refine h.go ⟨by rw [putW_size]; exact Nat.le_refl _, fun b _ hb => ?_⟩
          unfold Own at hb
          exact ⟨by unfold New; omega, putW_other _ _ _ _ _ _ _ _ (by omega)⟩
        unfold putW at hp hbb hre
        have HP := Lib.hid hp
        have HBB := Lib.hid hbb
        have HRE := Lib.hid hre
        clear hp hbb hre
        go_wp2
        exact ret_re HP.out Tryd.results39 rfl rfl ⟨_, rfl, HRE.out, HBB.out⟩
      · have d1 : decide (0 ≤ (j : Int) - 1) = true := by simp; omega
        obtain ⟨b2, off2, hab2, hblt2, hnode2⟩ := HR.out.kid (i := j - 1) (by omega)
        simp at hab2
        obtain ⟨rfl, rfl⟩ := hab2
        have hkid2 := NodeAt.below hb _ hblt2 hnode2
        have hdrop : l.drop (j - 1) = l[j - 1]'(by omega) :: l.drop j := by
          rw [List.drop_eq_getElem_cons (by omega)]; congr 2; omega
        have hne : l.drop j ≠ [] := by simp; omega
        have hfo := foldR_cons k o (l[j - 1]'(by omega)) hne
        rw [← hdrop] at hfo
        have HFO := Lib.hid hfo
        clear hdrop hne hfo hnode2
        generalize l[j - 1]'(by omega) = kid2 at *
        obtain ⟨k2, ⟨sa, sb, sc, sd⟩, ks2⟩ := kid2
        obtain ⟨al2, cap2, ⟨c0, c1, c2, c3, c4, c5⟩, hre⟩ := hkid2.read
        simp only at c0 c1 c2 c3 c4 c5
        have HRE := Lib.hid hre
        clear hkid2 hre
        have r1 : (j : Int) - 1 = ((j - 1 : Nat) : Int) := by omega
        have r2 : ((j - 1 : Nat) : Int) < (l.length : Int) := by omega
        obtain ⟨d0, e1, e2, e3, e4, e5, f0, f1, f2, f3, f4, f5⟩ := cellsR HG.out
        go_wp2_with fail
        have KC := Lib.hid fun W (h : Below wr.heap.size wr W) => cloneR (.node k2 ⟨sa, sb, sc, sd⟩ ks2) _ W (HRE.out.below h)
        go_region_with (go_at_call 36; refine (KC.out _ (Below.refl _ _).drew).mono ?_; (rintro e w' ⟨v2, rfl, hv2, hb2⟩); obtain ⟨z0, z1, z2, z3, z4, zl, zn, zc, rfl⟩ := cells_re hv2; obtain ⟨d0', e1', e2', e3', e4', e5', f0', f1', f2', f3', f4', f5'⟩ := cellsR ((hb2.block _ hgs).trans HG.out); have hgs' : w1.heap.size < w'.heap.size := Nat.lt_of_lt_of_le hgs hb2.size)
        all_goals
          obtain ⟨s1, s2, s3, s4⟩ := chain_step (k := k) hk hsz1 HG.out HN.out HV'.out hv2 ((Below.refl _ wr).drew.trans hb2) hb
          have HS1 := Lib.hid s1
          have HS2 := Lib.hid s2
          have HS3 := Lib.hid s3
          have HS4 := Lib.hid s4
          unfold chainW putW at HS1 HS2 HS3 HS4
          clear s1 s2 s3 s4
          go_wp2
          refine ⟨⟨j - 1, _, k, 0, 0, 0, 0, _, 2, 2, by omega, ?_, rfl, HS1.out, HS2.out, ?_, HS4.out⟩, ?_⟩
          · first | rfl | (congr 1; omega)
          · rw [HFO.out]; exact HS3.out
          · simp [intOf]; omega
/-- A callee's expression comes back through one's own result block. -/
theorem pass_re {w w1 : World} {r : Rx} {x0 x1 x2 x3 x4 x5 : Value} (hv : ReAt (New (w.alloc nilBlk).heap.size) w1 (.agg #[x0, x1, x2, x3, x4, x5]) r) (hb1 : Below (w.alloc nilBlk).heap.size (w.alloc nilBlk) w1) :
    w1.heap[w.heap.size]? = some nilBlk ∧ (putW w1 w.heap.size x0 x1 x2 x3 x4 x5).heap[w.heap.size]? = some (.cells #[x0, x1, x2, x3, x4, x5] 30) ∧
    ReAt (New w.heap.size) (putW w1 w.heap.size x0 x1 x2 x3 x4 x5) (.agg #[x0, x1, x2, x3, x4, x5]) r ∧ Below w.heap.size w (putW w1 w.heap.size x0 x1 x2 x3 x4 x5) := by
  have hn : w1.heap[w.heap.size]? = some nilBlk := (hb1.block _ (by simp)).trans (blk_new w _)
  refine ⟨hn, putR hn _ _ _ _ _ _, ?_, putB (((Below.refl _ w).alloc (Nat.le_refl _) _).trans (hb1.mono (by simp))) (Nat.le_refl _) _ _ _ _ _ _⟩
  refine hv.go ⟨by rw [putW_size]; exact Nat.le_refl _, fun b _ h => ?_⟩
  unfold New at h
  simp at h
  exact ⟨by unfold New; omega, putW_other _ _ _ _ _ _ _ _ (by omega)⟩
theorem then_any {ok : Nat → Prop} (l : List Rx) (al : Option Addr) (cap : Nat) (w : World) (hlen : l.length < 2199023255552) (h : RowAt ok w al l) :
    Calls Tryd.prog 23 #[.slice al l.length cap] w (NewPost (foldR 4 2 l) w) := by
  have K := Lib.hid (chain_any 4 2 l al cap (w.alloc nilBlk) (by decide) (by decide) hlen (h.below ((Below.refl _ w).alloc (Nat.le_refl _) _)))
  generalize foldR 4 2 l = r at *
  go_enter Tryd.func23, Tryd.ntmps23
  go_wp2_with fail
  refine K.out.mono ?_
  rintro e w1 ⟨v, rfl, hv, hb1⟩
  obtain ⟨x0, x1, x2, x3, x4, bl, n', cp, rfl⟩ := cells_re hv
  obtain ⟨hn, h1, h2, h3⟩ := pass_re hv hb1
  obtain ⟨g0, g1, g2, g3, g4, g5, p0, p1, p2, p3, p4, p5⟩ := cellsR hn
  unfold putW at h1 h2 h3
  have H1 := Lib.hid h1
  have H2 := Lib.hid h2
  have H3 := Lib.hid h3
  clear hv hb1 hn h1 h2 h3
  go_wp2
  exact ret_re H1.out Tryd.results23 rfl rfl ⟨_, rfl, H2.out, H3.out⟩
theorem or_any {ok : Nat → Prop} (l : List Rx) (al : Option Addr) (cap : Nat) (w : World) (hlen : l.length < 2199023255552) (h : RowAt ok w al l) :
    Calls Tryd.prog 24 #[.slice al l.length cap] w (NewPost (foldR 5 1 l) w) := by
  have K := Lib.hid (chain_any 5 1 l al cap (w.alloc nilBlk) (by decide) (by decide) hlen (h.below ((Below.refl _ w).alloc (Nat.le_refl _) _)))
  generalize foldR 5 1 l = r at *
  go_enter Tryd.func24, Tryd.ntmps24
  go_wp2_with fail
  refine K.out.mono ?_
  rintro e w1 ⟨v, rfl, hv, hb1⟩
  obtain ⟨x0, x1, x2, x3, x4, bl, n', cp, rfl⟩ := cells_re hv
  obtain ⟨hn, h1, h2, h3⟩ := pass_re hv hb1
  obtain ⟨g0, g1, g2, g3, g4, g5, p0, p1, p2, p3, p4, p5⟩ := cellsR hn
  unfold putW at h1 h2 h3
  have H1 := Lib.hid h1
  have H2 := Lib.hid h2
  have H3 := Lib.hid h3
  clear hv hb1 hn h1 h2 h3
  go_wp2
  exact ret_re H1.out Tryd.results24 rfl rfl ⟨_, rfl, H2.out, H3.out⟩
end Go.Proofs.YtdkdgbiagjflgaaDoor
/- rex.Many and rex.Size. -/
namespace Go.Proofs.YtdkdgbiagjflgaaDoor
open Go.RowKit
/-- The world behind a Star that is made in a result block. -/
def manyW (w1 : World) (g : Nat) (x0 x1 x2 x3 x4 x5 : Value) : World :=
  (putW w1 g (.int .u8 6) (.int .u64 0) (.int .u64 0) (.int .u64 0) (.int .u64 0) (.slice (some ⟨w1.heap.size, 0, none⟩) 1 1)).alloc (.cells #[x0, x1, x2, x3, x4, x5] 30)
theorem many_step {n0 g : Nat} {w w1 : World} {x0 x1 x2 x3 x4 x5 : Value} {r : Rx} (hn0 : n0 ≤ g) (hlt : g < w1.heap.size) (hv : ReAt (Own n0 g) w1 (.agg #[x0, x1, x2, x3, x4, x5]) r) (hn : w1.heap[g]? = some nilBlk) (hb : Below n0 w w1) :
    (manyW w1 g x0 x1 x2 x3 x4 x5).heap[g]? = some (.cells #[.int .u8 6, .int .u64 0, .int .u64 0, .int .u64 0, .int .u64 0, .slice (some ⟨w1.heap.size, 0, none⟩) 1 1] 30) ∧
    ReAt (New n0) (manyW w1 g x0 x1 x2 x3 x4 x5) (.agg #[.int .u8 6, .int .u64 0, .int .u64 0, .int .u64 0, .int .u64 0, .slice (some ⟨w1.heap.size, 0, none⟩) 1 1]) (.node 6 Ws.nil [r]) ∧ Below n0 w (manyW w1 g x0 x1 x2 x3 x4 x5) := by
  have hsz := putW_size w1 g (.int .u8 6) (.int .u64 0) (.int .u64 0) (.int .u64 0) (.int .u64 0) (.slice (some ⟨w1.heap.size, 0, none⟩) 1 1)
  refine ⟨(Below.heap_alloc _ _ _ (by rw [hsz]; exact hlt)).trans (putR hn _ _ _ _ _ _), ⟨by decide, Ws.nil_ok, _, _, rfl, Nat.le_refl _, by simp, row_one (blk_at _ _ hsz.symm) ?_ ?_⟩, (putB hb hn0 _ _ _ _ _ _).alloc (by rw [hsz]; omega) _⟩
  · unfold New; omega
  · refine hv.go ⟨by unfold manyW; rw [World.size_alloc, hsz]; omega, fun b h1 h2 => ⟨?_, (Below.heap_alloc _ _ _ (by rw [hsz]; exact h1)).trans (putW_other _ _ _ _ _ _ _ _ h2.2)⟩⟩
    unfold Own at h2; unfold New; omega
set_option maxHeartbeats 1000000 in
theorem manyX_any {ok : Nat → Prop} (r : Rx) (v : Value) (w : World) (h : ReAt ok w v r) :
    Calls Tryd.prog 20 #[v] w (NewPost (.node 6 Ws.nil [r]) w) := by
  obtain ⟨y0, y1, y2, y3, y4, yl, yn, yc, rfl⟩ := cells_re h
  have KC := Lib.hid fun W (hb : Below w.heap.size w W) => cloneR r _ W (h.below hb)
  clear h
  go_enter Tryd.func20, Tryd.ntmps20
  go_wp2_with fail
  refine (KC.out _ (((Below.refl _ w).alloc (Nat.le_refl _) _).alloc (by simp) _)).mono ?_
  rintro e w1 ⟨v, rfl, hv, hb1⟩
  obtain ⟨x0, x1, x2, x3, x4, bl, n', cp, rfl⟩ := cells_re hv
  have hn : w1.heap[w.heap.size + 1]? = some nilBlk := (hb1.block _ (by simp)).trans (blk_at _ _ (by simp))
  have hs := hb1.size
  simp at hs
  have hbw : Below w.heap.size w w1 := (((Below.refl _ w).alloc (Nat.le_refl _) _).alloc (by simp) _).trans (hb1.mono (by simp; omega))
  obtain ⟨g0, g1, g2, g3, g4, g5, p0, p1, p2, p3, p4, p5⟩ := cellsR hn
  have hlt : w.heap.size + 1 < w1.heap.size := by omega
  obtain ⟨s1, s2, s3⟩ := many_step (g := w.heap.size + 1) (n0 := w.heap.size) (r := r) (by omega) (by omega) (by
    refine hv.imp fun b _ h => ?_
    unfold New at h; simp at h; unfold Own; omega) hn hbw
  unfold manyW putW at s1 s2 s3
  have HS1 := Lib.hid s1
  have HS2 := Lib.hid s2
  have HS3 := Lib.hid s3
  clear hv hn hbw hb1 s1 s2 s3
  go_wp2
  exact ret_re HS1.out Tryd.results20 rfl rfl ⟨_, rfl, HS2.out, HS3.out⟩
def sizeInv (l : List Rx) (w : World) (x y : Value) (wr : World) : Prop := ∃ i m : Nat, i ≤ l.length ∧ m = l.length + Rx.sizes ((l.take i).flatMap Rx.kids) ∧ x = .int .i64 (wrap64 (m : Int)) ∧ y = .int .i64 i ∧ Below w.heap.size w wr
theorem sizes_kids (l : List Rx) : Rx.sizes l = l.length + Rx.sizes (l.flatMap Rx.kids) := by
  induction l with
  | nil => simp [Rx.sizes]
  | cons r t ih =>
    obtain ⟨k, s, ks⟩ := r
    simp only [Rx.sizes, Rx.size, List.flatMap_cons, sizes_append, List.length_cons, Rx.kids, ih]
    omega
theorem wrap_add (a b : Nat) : wrap64 (wrap64 (a : Int) + wrap64 (b : Int)) = wrap64 ((a + b : Nat) : Int) := by unfold wrap64; omega
end Go.Proofs.YtdkdgbiagjflgaaDoor
