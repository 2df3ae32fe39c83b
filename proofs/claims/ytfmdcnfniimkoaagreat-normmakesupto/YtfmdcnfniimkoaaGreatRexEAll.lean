/- Lemmas of mine, merged: RexE, RexMay, ShowM, ShowN, NullM, NullN, NullO, RexR, RexF, RexG, NormM, NormN, NormO, NormE, NullA, NormP, NormF, ReadM, ReadN, ReadTl, ReadT, ReadU, ReadO, ReadSt, RexH, NormA, OrdF, ShowBx, ReadR, ReadTop. -/
import Derived.Deep.RegionHeld3
import Derived.Test.YtfmdcnfniimkoaaGreatRexBAll
import Derived.Test.YtfmdcnfniimkoaaGreatSetMAll
import Derived.Laws.MakeOwn
import Derived.Deep.RegionWith
import Derived.BigRegion
import Derived.Test.YtfmdcnfniimkoaaGreatAnyOrdTAll
/- rex.isBare, rex.Of, rex.nodeMay. -/
namespace Go.Proofs.YtfmdcnfniimkoaaGreat
open Go.RowKit
def bareB (s : Ws) : Bool := sameW s Ws.nil
set_option maxHeartbeats 1000000 in
theorem isBare_any (s : Ws) (w : World) :
    Calls Tryz.prog 80 #[s.v] w fun e w' => e = .returned (.bool (bareB s)) ∧ Below w.heap.size w w' := by
  by_cases h : sameW s Ws.nil = true
  · have e : bareB s = true := h
    rw [e]
    obtain rfl := sameW_iff.1 h
    have hq := eqW_yes Ws.nil
    rw [nil_v] at hq ⊢
    clear h e
    go_enter Tryz.func80, Tryz.ntmps80
    go_wp2
    go_ret
    exact ⟨rfl, (Below.refl _ w).alloc (Nat.le_refl _) _⟩
  · have e : bareB s = false := by simpa [bareB] using h
    rw [e]
    have hne : s ≠ Ws.nil := fun e => h (sameW_iff.2 e)
    have hq := eqW_no hne
    rw [nil_v] at hq
    obtain ⟨a, b, c, d⟩ := s
    unfold Ws.v at hq ⊢
    clear h e hne
    go_enter Tryz.func80, Tryz.ntmps80
    go_wp2
    go_ret
    exact ⟨rfl, (Below.refl _ w).alloc (Nat.le_refl _) _⟩
theorem below_blk {w w1 : World} {B g : Nat} {o : Obj} (h : Below B w w1) (hg : g < B) (hw : w.heap[g]? = some o) : w1.heap[g]? = some o := (h.block g hg).trans hw
set_option maxHeartbeats 1000000 in
theorem ofX_any (s : Ws) (w : World) (hs : s.Ok) :
    Calls Tryz.prog 53 #[s.v] w (NewPost (ofR s) w) := by
  have KB := Lib.hid fun W => isBare_any s W
  have HO := Lib.hid (show ofR s = if bareB s then .node 1 Ws.nil [] else .node 3 s [] from rfl)
  generalize bareB s = q at *
  obtain ⟨a, b, c, d⟩ := s
  unfold Ws.v at KB ⊢
  go_enter Tryz.func53, Tryz.ntmps53
  go_wp2_with fail
  refine (KB.out _).mono ?_
  rintro e w1 ⟨rfl, hb1⟩
  have hbl : w1.heap[w.heap.size + 1]? = some (.cells #[.int .u8 0, .int .u64 0, .int .u64 0, .int .u64 0, .int .u64 0, .slice none 0 0] 27) := (hb1.block _ (by simp)).trans (blk_at _ _ (by simp))
  have hbs : w1.heap[w.heap.size]? = some (.cells #[.int .u64 a, .int .u64 b, .int .u64 c, .int .u64 d] 24) := (hb1.block _ (by simp; omega)).trans ((Below.heap_alloc _ _ _ (by simp)).trans (blk_at _ _ rfl))
  have hbw : Below w.heap.size w w1 := (((Below.refl _ w).alloc (Nat.le_refl _) _).alloc (by simp) _).trans (hb1.mono (by simp; omega))
  obtain ⟨d0, d1, d2, d3, d4, d5, f0, f1, f2, f3, f4, f5⟩ := cellsR hbl
  obtain ⟨⟨c0, c1, c2, c3⟩, _⟩ := (show Box w1 w.heap.size ⟨a, b, c, d⟩ from hbs).all
  simp only at c0 c1 c2 c3
  have HBL := Lib.hid hbl
  have HBW := Lib.hid hbw
  clear hbl hbs hb1 hbw
  cases q
  · have HP := Lib.hid (putR HBL.out (.int .u8 3) (.int .u64 a) (.int .u64 b) (.int .u64 c) (.int .u64 d) (.slice none 0 0))
    have HB := Lib.hid (putB HBW.out (by omega : w.heap.size ≤ w.heap.size + 1) (.int .u8 3) (.int .u64 a) (.int .u64 b) (.int .u64 c) (.int .u64 d) (.slice none 0 0))
    unfold putW at HP HB
    go_wp2
    refine ret_re HP.out Tryz.results53 rfl rfl ⟨_, rfl, ?_, HB.out⟩
    rw [HO.out]
    exact bareAt _ _ 3 ⟨a, b, c, d⟩ (by decide) hs
  · have HP := Lib.hid (putR HBL.out (.int .u8 1) (.int .u64 0) (.int .u64 0) (.int .u64 0) (.int .u64 0) (.slice none 0 0))
    have HB := Lib.hid (putB HBW.out (by omega : w.heap.size ≤ w.heap.size + 1) (.int .u8 1) (.int .u64 0) (.int .u64 0) (.int .u64 0) (.int .u64 0) (.slice none 0 0))
    unfold putW at HP HB
    go_wp2
    refine ret_re HP.out Tryz.results53 rfl rfl ⟨_, rfl, ?_, HB.out⟩
    rw [HO.out]
    exact bareAt _ _ 1 Ws.nil (by decide) Ws.nil_ok
def nodeGood (k n : Nat) (q : Bool) : Bool :=
  if k = 1 ∨ k = 2 then decide (n = 0) && q else if k = 3 then decide (n = 0) && !q else if k = 4 ∨ k = 5 then decide (n = 2) && q else if k = 6 then decide (n = 1) && q else false
def goodN : Rx → Bool
  | .node k s ks => nodeGood k ks.length (bareB s)
/-- What a walk reads of a block that holds an expression. -/
def ReCells (x : World) (g : Nat) (k a b c d : Nat) (sl : Value) : Prop := x.cell? ⟨g, 0, none⟩ = some (.int .u8 k) ∧ x.cell? ⟨g, 1, none⟩ = some (.int .u64 a) ∧ x.cell? ⟨g, 2, none⟩ = some (.int .u64 b) ∧ x.cell? ⟨g, 3, none⟩ = some (.int .u64 c) ∧ x.cell? ⟨g, 4, none⟩ = some (.int .u64 d) ∧ x.cell? ⟨g, 5, none⟩ = some sl
theorem reCells_of {x : World} {g k a b c d : Nat} {sl : Value} (h : x.heap[g]? = some (.cells #[.int .u8 k, .int .u64 a, .int .u64 b, .int .u64 c, .int .u64 d, sl] 27)) : ReCells x g k a b c d sl := by
  obtain ⟨d0, d1, d2, d3, d4, d5, _⟩ := cellsR h
  exact ⟨d0, d1, d2, d3, d4, d5⟩
theorem ReCells.below {x y : World} {B g k a b c d : Nat} {sl : Value} (h : ReCells x g k a b c d sl) (hb : Below B x y) (hg : g < B) : ReCells y g k a b c d sl := by
  have e := fun o => hb.cell (p := ⟨g, o, none⟩) hg
  obtain ⟨d0, d1, d2, d3, d4, d5⟩ := h
  exact ⟨by rw [e]; exact d0, by rw [e]; exact d1, by rw [e]; exact d2, by rw [e]; exact d3, by rw [e]; exact d4, by rw [e]; exact d5⟩
theorem keepR {W x y : World} {g k a b c d : Nat} {sl : Value} (h : ReCells W g k a b c d sl) (hg : g < W.heap.size) (h1 : Below W.heap.size W x) (h2 : Below x.heap.size x y) :
    (y.cell? ⟨g, 0, none⟩ = some (.int .u8 k) ∧ y.cell? ⟨g, 1, none⟩ = some (.int .u64 a) ∧ y.cell? ⟨g, 2, none⟩ = some (.int .u64 b) ∧ y.cell? ⟨g, 3, none⟩ = some (.int .u64 c) ∧ y.cell? ⟨g, 4, none⟩ = some (.int .u64 d) ∧ y.cell? ⟨g, 5, none⟩ = some sl) ∧ Below W.heap.size W y := by
  have hb := h1.trans (h2.mono h1.size)
  exact ⟨h.below hb hg, hb⟩
set_option maxHeartbeats 4000000 in
theorem nodeMay_any (k : Nat) (s : Ws) (n : Nat) (al : Option Addr) (cap : Nat) (w : World) (hk : k < 256) (hn : n < 2199023255552) :
    Calls Tryz.prog 86 #[.agg #[.int .u8 k, .int .u64 s.a, .int .u64 s.b, .int .u64 s.c, .int .u64 s.d, .slice al n cap]] w fun e w' => e = .returned (.bool (nodeGood k n (bareB s))) ∧ Below w.heap.size w w' := by
  have KB := Lib.hid fun W => isBare_any s W
  generalize bareB s = q at *
  obtain ⟨a, b, c, d⟩ := s
  unfold Ws.v at KB
  simp only at KB ⊢
  go_enter Tryz.func86, Tryz.ntmps86
  go_wp2_with fail
  have h0 := reCells_of (blk_new w (.cells #[.int .u8 k, .int .u64 a, .int .u64 b, .int .u64 c, .int .u64 d, .slice al n cap] 27))
  have hb0 := (Below.refl _ w).alloc (Nat.le_refl _) (.cells #[.int .u8 k, .int .u64 a, .int .u64 b, .int .u64 c, .int .u64 d, .slice al n cap] 27)
  have hg : w.heap.size < (w.alloc (.cells #[.int .u8 k, .int .u64 a, .int .u64 b, .int .u64 c, .int .u64 d, .slice al n cap] 27)).heap.size := by simp
  generalize hW : w.alloc (.cells #[.int .u8 k, .int .u64 a, .int .u64 b, .int .u64 c, .int .u64 d, .slice al n cap] 27) = W at *
  clear hW
  have H0 := Lib.hid h0
  clear h0
  go_region_held3 (fun x => (x.cell? ⟨w.heap.size, 0, none⟩ = some (.int .u8 k) ∧ x.cell? ⟨w.heap.size, 1, none⟩ = some (.int .u64 a) ∧ x.cell? ⟨w.heap.size, 2, none⟩ = some (.int .u64 b) ∧ x.cell? ⟨w.heap.size, 3, none⟩ = some (.int .u64 c) ∧ x.cell? ⟨w.heap.size, 4, none⟩ = some (.int .u64 d) ∧ x.cell? ⟨w.heap.size, 5, none⟩ = some (.slice al n cap)) ∧ Below W.heap.size W x)
    (first | assumption | exact ⟨H0.out, (Below.refl _ _).drew⟩ | exact keepR H0.out hg (And.right (by assumption)) (by assumption))
    (first
      | (go_at_call 80; (with_reducible refine (KB.out _).mono ?_); rintro e w' ⟨rfl, hbb⟩))
  all_goals
    obtain ⟨⟨c0, c1, c2, c3, c4, c5⟩, hbx⟩ := ‹_ ∧ Below W.heap.size W _›
    have hbw := hb0.trans (hbx.mono (Nat.le_of_lt hg))
    have HBW := Lib.hid hbw
    clear hbx hbw
    by_cases k1 : k = 1
    · subst k1
      by_cases hn0 : n = 0
      · subst hn0
        go_wp2
        go_ret
        exact ⟨by simp [nodeGood], HBW.out⟩
      · have e0 : ((n : Int) == 0) = false := by simp; omega
        go_wp2
        go_ret
        exact ⟨by simp [nodeGood, hn0], HBW.out⟩
    have f1 : ((k : Int) == 1) = false := by simp; omega
    by_cases k2 : k = 2
    · subst k2
      by_cases hn0 : n = 0
      · subst hn0
        go_wp2
        go_ret
        exact ⟨by simp [nodeGood], HBW.out⟩
      · have e0 : ((n : Int) == 0) = false := by simp; omega
        go_wp2
        go_ret
        exact ⟨by simp [nodeGood, hn0], HBW.out⟩
    have f2 : ((k : Int) == 2) = false := by simp; omega
    by_cases k3 : k = 3
    · subst k3
      by_cases hn0 : n = 0
      · subst hn0
        go_wp2
        go_ret
        exact ⟨by simp [nodeGood], HBW.out⟩
      · have e0 : ((n : Int) == 0) = false := by simp; omega
        go_wp2
        go_ret
        exact ⟨by simp [nodeGood, hn0], HBW.out⟩
    have f3 : ((k : Int) == 3) = false := by simp; omega
    by_cases k4 : k = 4
    · subst k4
      by_cases hn0 : n = 2
      · subst hn0
        go_wp2
        go_ret
        exact ⟨by simp [nodeGood], HBW.out⟩
      · have e0 : ((n : Int) == 2) = false := by simp; omega
        go_wp2
        go_ret
        exact ⟨by simp [nodeGood, hn0], HBW.out⟩
    have f4 : ((k : Int) == 4) = false := by simp; omega
    by_cases k5 : k = 5
    · subst k5
      by_cases hn0 : n = 2
      · subst hn0
        go_wp2
        go_ret
        exact ⟨by simp [nodeGood], HBW.out⟩
      · have e0 : ((n : Int) == 2) = false := by simp; omega
        go_wp2
        go_ret
        exact ⟨by simp [nodeGood, hn0], HBW.out⟩
    have f5 : ((k : Int) == 5) = false := by simp; omega
    by_cases k6 : k = 6
    · subst k6
      by_cases hn0 : n = 1
      · subst hn0
        go_wp2
        go_ret
        exact ⟨by simp [nodeGood], HBW.out⟩
      · have e0 : ((n : Int) == 1) = false := by simp; omega
        go_wp2
        go_ret
        exact ⟨by simp [nodeGood, hn0], HBW.out⟩
    have f6 : ((k : Int) == 6) = false := by simp; omega
    have HG := Lib.hid (show nodeGood k n q = false from by simp [nodeGood, k1, k2, k3, k4, k5, k6])
    clear k1 k2 k3 k4 k5 k6
    go_wp2
    go_ret
    exact ⟨by rw [HG.out]; rfl, HBW.out⟩
end Go.Proofs.YtfmdcnfniimkoaaGreat
/- Whether expressions may be; no program. -/
namespace Go.Proofs.YtfmdcnfniimkoaaGreat
mutual
def goodR : Rx → Bool
  | .node k s ks => nodeGood k ks.length (bareB s) && goodRs ks
def goodRs : List Rx → Bool
  | [] => true
  | r :: rs => goodR r && goodRs rs
end
theorem goodRs_append (a b : List Rx) : goodRs (a ++ b) = (goodRs a && goodRs b) := by
  induction a with
  | nil => simp [goodRs]
  | cons x t ih => simp [goodRs, ih, Bool.and_assoc]
/-- Whether an expression may be, where so many nodes are left. -/
def mayN (r : Rx) (n : Nat) : Bool := goodR r && decide (r.size ≤ n)
def mayNs (l : List Rx) (n : Nat) : Bool := goodRs l && decide (Rx.sizes l ≤ n)
def mayR (r : Rx) : Bool := mayN r 2000
theorem mayNs_step {l : List Rx} {n i : Nat} (h : i < l.length) (ht : mayNs (l.take i) n = true) (hk : mayN l[i] (n - Rx.sizes (l.take i)) = true) : mayNs (l.take (i + 1)) n = true := by
  simp [mayNs, mayN] at *
  rw [sizes_take l i h, List.take_succ_eq_append_getElem h, goodRs_append]
  simp [goodRs, ht, hk]; omega
theorem mayNs_stop {l : List Rx} {n i : Nat} (h : i < l.length) (ht : mayNs (l.take i) n = true) (hk : mayN l[i] (n - Rx.sizes (l.take i)) = false) : mayNs l n = false := by
  have e := List.take_append_drop (i + 1) l
  have hs := sizes_append (l.take (i + 1)) (l.drop (i + 1))
  have hg := goodRs_append (l.take (i + 1)) (l.drop (i + 1))
  rw [e] at hs hg
  rw [sizes_take l i h] at hs
  rw [List.take_succ_eq_append_getElem h, goodRs_append] at hg
  simp only [goodRs, Bool.and_true] at hg
  simp only [mayNs, mayN, Bool.and_eq_true, Bool.and_eq_false_iff, decide_eq_true_eq, decide_eq_false_iff_not] at *
  rcases hk with hk | hk
  · left; rw [hg, hk]; simp
  · right; omega
end Go.Proofs.YtfmdcnfniimkoaaGreat
/- Expressions that may be, and their texts: unlike ones have unlike texts; no program. -/
namespace Go.Proofs.YtfmdcnfniimkoaaGreat
/-- Expressions that may be. -/
inductive Ex where
  | empty
  | eps
  | cls (s : Ws)
  | seq (a b : Ex)
  | alt (a b : Ex)
  | star (a : Ex)
def Ex.rx : Ex → Rx
  | .empty => .node 1 Ws.nil []
  | .eps => .node 2 Ws.nil []
  | .cls s => .node 3 s []
  | .seq a b => .node 4 Ws.nil [a.rx, b.rx]
  | .alt a b => .node 5 Ws.nil [a.rx, b.rx]
  | .star a => .node 6 Ws.nil [a.rx]
def Ex.Wf : Ex → Prop
  | .empty => True
  | .eps => True
  | .cls s => s.Ok ∧ s ≠ Ws.nil
  | .seq a b => a.Wf ∧ b.Wf
  | .alt a b => a.Wf ∧ b.Wf
  | .star a => a.Wf
def Ex.size : Ex → Nat
  | .empty => 1
  | .eps => 1
  | .cls _ => 1
  | .seq a b => 1 + a.size + b.size
  | .alt a b => 1 + a.size + b.size
  | .star a => 1 + a.size
theorem Ex.size_rx : ∀ e : Ex, e.rx.size = e.size
  | .empty => by simp [Ex.rx, Rx.size, Rx.sizes, Ex.size]
  | .eps => by simp [Ex.rx, Rx.size, Rx.sizes, Ex.size]
  | .cls _ => by simp [Ex.rx, Rx.size, Rx.sizes, Ex.size]
  | .seq a b => by simp [Ex.rx, Rx.size, Rx.sizes, Ex.size, a.size_rx, b.size_rx]; omega
  | .alt a b => by simp [Ex.rx, Rx.size, Rx.sizes, Ex.size, a.size_rx, b.size_rx]; omega
  | .star a => by simp [Ex.rx, Rx.size, Rx.sizes, Ex.size, a.size_rx]
theorem Ex.rx_inj : ∀ e f : Ex, e.rx = f.rx → e = f
  | .empty, f, h => by cases f <;> simp_all [Ex.rx]
  | .eps, f, h => by cases f <;> simp_all [Ex.rx]
  | .cls _, f, h => by cases f <;> simp_all [Ex.rx]
  | .seq a b, f, h => by
    cases f with
    | seq c d =>
      simp [Ex.rx] at h
      rw [a.rx_inj c h.1, b.rx_inj d h.2]
    | _ => simp [Ex.rx] at h
  | .alt a b, f, h => by
    cases f with
    | alt c d =>
      simp [Ex.rx] at h
      rw [a.rx_inj c h.1, b.rx_inj d h.2]
    | _ => simp [Ex.rx] at h
  | .star a, f, h => by
    cases f with
    | star c =>
      simp [Ex.rx] at h
      rw [a.rx_inj c h]
    | _ => simp [Ex.rx] at h
/-- All sets of an expression are such. -/
def Rx.SetsOk : Rx → Prop
  | .node _ s ks => s.Ok ∧ ∀ k ∈ ks, k.SetsOk
theorem bare_nil {s : Ws} (h : bareB s = true) : s = Ws.nil := by
  unfold bareB at h
  exact sameW_iff.1 h
theorem goodRs_mem {l : List Rx} (h : goodRs l = true) : ∀ r ∈ l, goodR r = true := by
  induction l with
  | nil => intro r hr; cases hr
  | cons x t ih =>
    simp only [goodRs, Bool.and_eq_true] at h
    intro r hr
    rcases List.mem_cons.1 hr with rfl | hr
    · exact h.1
    · exact ih h.2 r hr
theorem ex_of_good (N : Nat) : ∀ r : Rx, r.size ≤ N → goodR r = true → r.SetsOk → ∃ e : Ex, e.rx = r ∧ e.Wf := by
  induction N with
  | zero => intro r h; have := r.size_pos; omega
  | succ N ih =>
    rintro ⟨k, s, ks⟩ hN hg hs
    have hN' : Rx.sizes ks ≤ N := by simp [Rx.size] at hN; omega
    unfold goodR at hg
    unfold Rx.SetsOk at hs
    rw [Bool.and_eq_true] at hg
    obtain ⟨hn, hks⟩ := hg
    have sub : ∀ r ∈ ks, ∃ e : Ex, e.rx = r ∧ e.Wf := fun r hr => by
      obtain ⟨i, hi, rfl⟩ := List.getElem_of_mem hr
      exact ih _ (Nat.le_trans (size_kid hi) hN') (goodRs_mem hks _ hr) (hs.2 _ hr)
    unfold nodeGood at hn
    by_cases h1 : k = 1 ∨ k = 2
    · rw [if_pos h1] at hn
      simp only [Bool.and_eq_true, decide_eq_true_eq] at hn
      obtain ⟨h2, h3⟩ := hn
      have hk := List.eq_nil_of_length_eq_zero h2
      have hb := bare_nil h3
      subst hk hb
      rcases h1 with rfl | rfl
      · exact ⟨.empty, rfl, trivial⟩
      · exact ⟨.eps, rfl, trivial⟩
    · rw [if_neg h1] at hn
      by_cases h2 : k = 3
      · rw [if_pos h2] at hn
        simp only [Bool.and_eq_true, decide_eq_true_eq, Bool.not_eq_true'] at hn
        have hk := List.eq_nil_of_length_eq_zero hn.1
        subst hk h2
        refine ⟨.cls s, rfl, hs.1, fun e => ?_⟩
        have := hn.2
        rw [e] at this
        exact absurd this (by decide)
      · rw [if_neg h2] at hn
        by_cases h3 : k = 4 ∨ k = 5
        · rw [if_pos h3] at hn
          simp only [Bool.and_eq_true, decide_eq_true_eq] at hn
          have hb := bare_nil hn.2
          subst hb
          match ks, hn.1 with
          | [a, b], _ =>
            obtain ⟨ea, rfl, wa⟩ := sub a (by simp)
            obtain ⟨eb, rfl, wb⟩ := sub b (by simp)
            rcases h3 with rfl | rfl
            · exact ⟨.seq ea eb, rfl, wa, wb⟩
            · exact ⟨.alt ea eb, rfl, wa, wb⟩
        · rw [if_neg h3] at hn
          by_cases h4 : k = 6
          · rw [if_pos h4] at hn
            simp only [Bool.and_eq_true, decide_eq_true_eq] at hn
            have hb := bare_nil hn.2
            subst hb h4
            match ks, hn.1 with
            | [a], _ =>
              obtain ⟨ea, rfl, wa⟩ := sub a (by simp)
              exact ⟨.star ea, rfl, wa⟩
          · rw [if_neg h4] at hn; exact absurd hn (by simp)
theorem good_ex : ∀ e : Ex, e.Wf → goodR e.rx = true
  | .empty, _ => by simp [Ex.rx, goodR, goodRs, nodeGood]; decide
  | .eps, _ => by simp [Ex.rx, goodR, goodRs, nodeGood]; decide
  | .cls s, h => by
    have : bareB s = false := by
      cases hb : bareB s with
      | false => rfl
      | true => exact absurd (bare_nil hb) h.2
    simp [Ex.rx, goodR, goodRs, nodeGood, this]
  | .seq a b, h => by
    have : bareB Ws.nil = true := by decide
    simp [Ex.rx, goodR, goodRs, nodeGood, this, good_ex a h.1, good_ex b h.2]
  | .alt a b, h => by
    have : bareB Ws.nil = true := by decide
    simp [Ex.rx, goodR, goodRs, nodeGood, this, good_ex a h.1, good_ex b h.2]
  | .star a, h => by
    have : bareB Ws.nil = true := by decide
    simp [Ex.rx, goodR, goodRs, nodeGood, this, good_ex a h]
end Go.Proofs.YtfmdcnfniimkoaaGreat
/- The text of an expression: unlike ones have unlike texts; no program. -/
namespace Go.Proofs.YtfmdcnfniimkoaaGreat
def roundL (s : List UInt8) (b : Bool) : List UInt8 := if b = true then 40 :: (s ++ [41]) else s
def Ex.isAlt : Ex → Bool
  | .alt _ _ => true
  | _ => false
def Ex.isSeq : Ex → Bool
  | .seq _ _ => true
  | _ => false
def Ex.text : Ex → List UInt8
  | .empty => [91, 93]
  | .eps => [40, 41]
  | .cls s => textW s
  | .seq a b => roundL a.text (a.isSeq || a.isAlt) ++ roundL b.text b.isAlt
  | .alt a b => roundL a.text a.isAlt ++ 124 :: b.text
  | .star a => roundL a.text (a.isSeq || a.isAlt) ++ [42]
def Ex.item (e : Ex) : List UInt8 := roundL e.text (e.isSeq || e.isAlt)
def Ex.part (e : Ex) : List UInt8 := roundL e.text e.isAlt
theorem text_seq (a b : Ex) : (Ex.seq a b).text = a.item ++ b.part := rfl
theorem text_alt (a b : Ex) : (Ex.alt a b).text = a.part ++ 124 :: b.text := rfl
theorem text_star (a : Ex) : (Ex.star a).text = a.item ++ [42] := rfl
theorem item_star (a : Ex) : (Ex.star a).item = a.item ++ [42] := rfl
theorem item_seq (a b : Ex) : (Ex.seq a b).item = 40 :: ((Ex.seq a b).text ++ [41]) := rfl
theorem item_alt (a b : Ex) : (Ex.alt a b).item = 40 :: ((Ex.alt a b).text ++ [41]) := rfl
theorem part_seq (a b : Ex) : (Ex.seq a b).part = a.item ++ b.part := rfl
theorem part_item {e : Ex} (h : e.isSeq = false) : e.part = e.item := by unfold Ex.part Ex.item; rw [h]; rfl
theorem part_text {e : Ex} (h : e.isAlt = false) : e.part = e.text := by unfold Ex.part roundL; rw [h]; rfl
/-- A byte that a text begins with. -/
def Starts (c : UInt8) : Prop := c ≠ 41 ∧ c ≠ 42 ∧ c ≠ 124 ∧ c ≠ 93
theorem sign_start : ∀ n : Fin 256, ∃ c t, signL n.1 = c :: t ∧ c ≠ 41 ∧ c ≠ 42 ∧ c ≠ 124 ∧ c ≠ 93 ∧ c ≠ 40 ∧ c ≠ 91 ∧ c ≠ 46 := by
  intro n
  have h : ∀ n : Fin 256, (signL n.1).headD 0 ≠ 41 ∧ (signL n.1).headD 0 ≠ 42 ∧ (signL n.1).headD 0 ≠ 124 ∧ (signL n.1).headD 0 ≠ 93 ∧ (signL n.1).headD 0 ≠ 40 ∧ (signL n.1).headD 0 ≠ 91 ∧ (signL n.1).headD 0 ≠ 46 := by decide +kernel
  have h2 := h n
  have hl := (signL_length n.1).2
  match hs : signL n.1, hl with
  | c :: t, _ =>
    rw [hs] at h2
    exact ⟨c, t, rfl, h2⟩
theorem sign_no93 : ∀ n : Fin 256, ∀ c ∈ signL n.1, c ≠ 93 := by decide +kernel
theorem textOf_no93 : ∀ (k : Nat) (l : List Nat), l.length ≤ k → (∀ x ∈ l, x < 256) → ∀ c ∈ textOf l, c ≠ 93
  | 0, l, h, _ => by
    have : l = [] := List.eq_nil_of_length_eq_zero (by omega)
    subst this
    simp [textOf_nil]
  | k + 1, [], _, _ => by simp [textOf_nil]
  | k + 1, x :: l, h, hl => by
    have hx := hl x (List.mem_cons_self ..)
    simp at h
    have hrest : ∀ y ∈ l.drop (runFrom x l), y < 256 := fun y hy => hl y (List.mem_cons_of_mem _ (List.mem_of_mem_drop hy))
    have ih := textOf_no93 k (l.drop (runFrom x l)) (by simp; omega) hrest
    have htk := runFrom_take x l
    intro c hc
    rw [textOf_cons] at hc
    rcases List.mem_append.1 hc with hc | hc
    · have hin : ∀ j, 1 ≤ j → j ≤ runFrom x l → x + j < 256 := fun j h1 h2 => by
        have : x + j ∈ l.take (runFrom x l) := by rw [htk]; simp [List.mem_range'_1]; omega
        exact hl _ (List.mem_cons_of_mem _ (List.mem_of_mem_take this))
      unfold segL at hc
      split at hc
      · rename_i h3
        have hm := hin (runFrom x l) (by omega) (Nat.le_refl _)
        rcases List.mem_append.1 hc with hc | hc
        · exact sign_no93 ⟨x, hx⟩ c hc
        · rcases List.mem_cons.1 hc with rfl | hc
          · decide
          · exact sign_no93 ⟨x + (1 + runFrom x l) - 1, by omega⟩ c hc
      · split at hc
        · rename_i h2
          have hm := hin 1 (Nat.le_refl _) (by omega)
          rcases List.mem_append.1 hc with hc | hc
          · exact sign_no93 ⟨x, hx⟩ c hc
          · exact sign_no93 ⟨x + 1, hm⟩ c hc
        · exact sign_no93 ⟨x, hx⟩ c hc
    · exact ih c hc
theorem split93 : ∀ (a b x y : List UInt8), (∀ c ∈ a, c ≠ 93) → (∀ c ∈ b, c ≠ 93) → a ++ 93 :: x = b ++ 93 :: y → a = b ∧ x = y
  | [], [], x, y, _, _, h => by simpa using h
  | [], c :: b, x, y, _, hb, h => by
    simp at h
    exact absurd h.1.symm (hb c (by simp))
  | c :: a, [], x, y, ha, _, h => by
    simp at h
    exact absurd h.1 (ha c (by simp))
  | c :: a, d :: b, x, y, ha, hb, h => by
    simp at h
    obtain ⟨rfl, h⟩ := h
    have := split93 a b x y (fun e he => ha e (List.mem_cons_of_mem _ he)) (fun e he => hb e (List.mem_cons_of_mem _ he)) h
    exact ⟨by rw [this.1], this.2⟩
theorem bytes_ne {s : Ws} (hs : s.Ok) (h : s ≠ Ws.nil) : bytesN s ≠ [] := fun e => h (bytesN_inj hs Ws.nil_ok (by rw [e]; decide))
/-- What a set's text is: a dot, a sign, or some in brackets. -/
theorem textW_cases {s : Ws} (hs : s.Ok) (h : s ≠ Ws.nil) : textW s = [46] ∨ (∃ n : Fin 256, textW s = signL n.1) ∨ ∃ a, textW s = 91 :: (a ++ [93]) ∧ (∀ c ∈ a, c ≠ 93) ∧ a ≠ [] := by
  unfold textW
  split
  · exact .inl rfl
  · split
    · rename_i h1
      obtain ⟨x, hx⟩ := List.length_eq_one_iff.1 h1
      have hlt : x < 256 := bytesN_lt s x (by rw [hx]; simp)
      exact .inr (.inl ⟨⟨x, hlt⟩, by rw [hx]; rfl⟩)
    · refine .inr (.inr ⟨_, rfl, textOf_no93 _ _ (Nat.le_refl _) (bytesN_lt s), ?_⟩)
      have hne := bytes_ne hs h
      match hb : bytesN s, hne with
      | x :: l, _ =>
        rw [textOf_cons]
        intro e
        have h1 := (List.append_eq_nil_iff.1 e).1
        have h2 := signL_length x
        unfold segL at h1
        split at h1
        · rw [(List.append_eq_nil_iff.1 h1).1] at h2; simp at h2
        · split at h1
          · rw [(List.append_eq_nil_iff.1 h1).1] at h2; simp at h2
          · rw [h1] at h2; simp at h2
theorem textW_pre {s t : Ws} (hs : s.Ok) (ht : t.Ok) (hs0 : s ≠ Ws.nil) (ht0 : t ≠ Ws.nil) {x y : List UInt8} (h : textW s ++ x = textW t ++ y) : s = t ∧ x = y := by
  have key : textW s = textW t ∧ x = y := by
    rcases textW_cases hs hs0 with e1 | ⟨n, e1⟩ | ⟨a, e1, ha, _⟩ <;> rcases textW_cases ht ht0 with e2 | ⟨m, e2⟩ | ⟨b, e2, hb, _⟩
    · rw [e1, e2] at h ⊢; exact ⟨rfl, by simpa using h⟩
    · obtain ⟨c, u, hc, _, _, _, _, _, _, h46⟩ := sign_start m
      rw [e1, e2, hc] at h
      simp at h
      exact absurd h.1.symm h46
    · rw [e1, e2] at h; simp at h
    · obtain ⟨c, u, hc, _, _, _, _, _, _, h46⟩ := sign_start n
      rw [e1, e2, hc] at h
      simp at h
      exact absurd h.1 h46
    · rw [e1, e2] at h ⊢
      have r1 := readSign_sign n.1 n.2 x
      have r2 := readSign_sign m.1 m.2 y
      rw [h, r2] at r1
      simp at r1
      rw [r1.1, r1.2]; exact ⟨rfl, rfl⟩
    · obtain ⟨c, u, hc, _, _, _, _, _, h91, _⟩ := sign_start n
      rw [e1, e2, hc] at h
      simp at h
      exact absurd h.1 h91
    · rw [e1, e2] at h; simp at h
    · obtain ⟨c, u, hc, _, _, _, _, _, h91, _⟩ := sign_start m
      rw [e1, e2, hc] at h
      simp at h
      exact absurd h.1.symm h91
    · rw [e1, e2] at h ⊢
      simp at h
      have := split93 a b x y ha hb h
      rw [this.1, this.2]; exact ⟨rfl, rfl⟩
  exact ⟨textW_inj hs ht key.1, key.2⟩
theorem textW_start {s : Ws} (hs : s.Ok) (h : s ≠ Ws.nil) : ∃ c t, textW s = c :: t ∧ Starts c ∧ c ≠ 40 := by
  rcases textW_cases hs h with e | ⟨n, e⟩ | ⟨a, e, _, _⟩
  · exact ⟨_, _, e, by unfold Starts; decide, by decide⟩
  · obtain ⟨c, u, hc, h1, h2, h3, h4, h5, _⟩ := sign_start n
    exact ⟨c, u, by rw [e, hc], ⟨h1, h2, h3, h4⟩, h5⟩
  · exact ⟨_, _, e, by unfold Starts; decide, by decide⟩
theorem textW_not_empty {s : Ws} (hs : s.Ok) (h : s ≠ Ws.nil) (x y : List UInt8) : textW s ++ x ≠ 91 :: 93 :: y := by
  intro e
  rcases textW_cases hs h with e1 | ⟨n, e1⟩ | ⟨a, e1, ha, hne⟩
  · rw [e1] at e; simp at e
  · obtain ⟨c, u, hc, _, _, _, _, _, h91, _⟩ := sign_start n
    rw [e1, hc] at e
    simp at e
    exact h91 e.1
  · rw [e1] at e
    match a, hne with
    | c :: a, _ =>
      simp at e
      exact ha c (by simp) e.1
theorem start_round {s : List UInt8} {b : Bool} (h : ∃ c t, s = c :: t ∧ Starts c) : ∃ c t, roundL s b = c :: t ∧ Starts c := by
  unfold roundL
  split
  · exact ⟨_, _, rfl, by unfold Starts; decide⟩
  · exact h
theorem start_app {s x : List UInt8} (h : ∃ c t, s = c :: t ∧ Starts c) : ∃ c t, s ++ x = c :: t ∧ Starts c := by
  obtain ⟨c, t, rfl, hc⟩ := h
  exact ⟨c, t ++ x, rfl, hc⟩
theorem text_start : ∀ e : Ex, e.Wf → ∃ c t, e.text = c :: t ∧ Starts c
  | .empty, _ => ⟨_, _, rfl, by unfold Starts; decide⟩
  | .eps, _ => ⟨_, _, rfl, by unfold Starts; decide⟩
  | .cls s, h => by
    obtain ⟨c, t, e, hc, _⟩ := textW_start h.1 h.2
    exact ⟨c, t, e, hc⟩
  | .seq a b, h => start_app (start_round (text_start a h.1))
  | .alt a b, h => start_app (start_round (text_start a h.1))
  | .star a, h => start_app (start_round (text_start a h))
theorem item_start {e : Ex} (h : e.Wf) : ∃ c t, e.item = c :: t ∧ Starts c := start_round (text_start e h)
theorem part_start {e : Ex} (h : e.Wf) : ∃ c t, e.part = c :: t ∧ Starts c := start_round (text_start e h)
def Term0 (x : List UInt8) : Prop := x = [] ∨ ∃ t, x = 41 :: t
def Term1 (x : List UInt8) : Prop := x = [] ∨ (∃ t, x = 41 :: t) ∨ ∃ t, x = 124 :: t
def NoStar (x : List UInt8) : Prop := ∀ t, x ≠ 42 :: t
theorem Term1.noStar {x : List UInt8} (h : Term1 x) : NoStar x := by
  rintro t rfl
  rcases h with h | ⟨u, h⟩ | ⟨u, h⟩ <;> simp at h
theorem noStar_part {e : Ex} (h : e.Wf) (x : List UInt8) : NoStar (e.part ++ x) := by
  obtain ⟨c, t, e1, hc⟩ := start_app (x := x) (part_start h)
  rintro u hu
  rw [e1] at hu
  simp at hu
  exact hc.2.1 hu.1
theorem term_not_part {e : Ex} (h : e.Wf) {x y : List UInt8} (hy : Term1 y) (he : e.part ++ x = y) : False := by
  obtain ⟨c, t, e1, hc⟩ := start_app (x := x) (part_start h)
  rw [e1] at he
  rcases hy with hy | ⟨u, hy⟩ | ⟨u, hy⟩
  · rw [hy] at he; simp at he
  · rw [hy] at he; simp at he; exact hc.1 he.1
  · rw [hy] at he; simp at he; exact hc.2.2.1 he.1
/-- Texts up to a size tell the expression. -/
def TP (N : Nat) : Prop := ∀ e f : Ex, ∀ x y : List UInt8, e.size ≤ N → e.Wf → f.Wf → Term0 x → Term0 y → e.text ++ x = f.text ++ y → e = f ∧ x = y
def Ex.base : Ex → Ex
  | .star a => a.base
  | e => e
def Ex.stars : Ex → Nat
  | .star a => a.stars + 1
  | _ => 0
def Ex.isStar : Ex → Bool
  | .star _ => true
  | _ => false
theorem base_star : ∀ e : Ex, e.base.isStar = false
  | .empty => rfl
  | .eps => rfl
  | .cls _ => rfl
  | .seq _ _ => rfl
  | .alt _ _ => rfl
  | .star a => base_star a
theorem item_base : ∀ e : Ex, e.item = e.base.item ++ List.replicate e.stars 42
  | .empty => by simp [Ex.base, Ex.stars]
  | .eps => by simp [Ex.base, Ex.stars]
  | .cls _ => by simp [Ex.base, Ex.stars]
  | .seq _ _ => by simp [Ex.base, Ex.stars]
  | .alt _ _ => by simp [Ex.base, Ex.stars]
  | .star a => by
    rw [item_star, item_base a, Ex.base, Ex.stars, List.append_assoc, List.replicate_succ']
theorem base_wf : ∀ e : Ex, e.Wf → e.base.Wf
  | .empty, h => h
  | .eps, h => h
  | .cls _, h => h
  | .seq _ _, h => h
  | .alt _ _, h => h
  | .star a, h => base_wf a h
theorem base_size : ∀ e : Ex, e.base.size + e.stars ≤ e.size
  | .empty => by simp [Ex.base, Ex.stars]
  | .eps => by simp [Ex.base, Ex.stars]
  | .cls _ => by simp [Ex.base, Ex.stars]
  | .seq _ _ => by simp [Ex.base, Ex.stars]
  | .alt _ _ => by simp [Ex.base, Ex.stars]
  | .star a => by
    have := base_size a
    simp [Ex.base, Ex.stars, Ex.size]; omega
theorem base_inj : ∀ e f : Ex, e.base = f.base → e.stars = f.stars → e = f
  | .star a, .star b, h1, h2 => by
    have := base_inj a b h1 (by simpa [Ex.stars] using h2)
    rw [this]
  | .star a, .empty, _, h2 => by simp [Ex.stars] at h2
  | .star a, .eps, _, h2 => by simp [Ex.stars] at h2
  | .star a, .cls _, _, h2 => by simp [Ex.stars] at h2
  | .star a, .seq _ _, _, h2 => by simp [Ex.stars] at h2
  | .star a, .alt _ _, _, h2 => by simp [Ex.stars] at h2
  | .empty, f, h1, h2 => by cases f <;> simp_all [Ex.base, Ex.stars]
  | .eps, f, h1, h2 => by cases f <;> simp_all [Ex.base, Ex.stars]
  | .cls _, f, h1, h2 => by cases f <;> simp_all [Ex.base, Ex.stars]
  | .seq _ _, f, h1, h2 => by cases f <;> simp_all [Ex.base, Ex.stars]
  | .alt _ _, f, h1, h2 => by cases f <;> simp_all [Ex.base, Ex.stars]
theorem stars_pre : ∀ (n m : Nat) (x y : List UInt8), NoStar x → NoStar y → List.replicate n 42 ++ x = List.replicate m 42 ++ y → n = m ∧ x = y
  | 0, 0, x, y, _, _, h => ⟨rfl, by simpa using h⟩
  | 0, m + 1, x, y, hx, _, h => by simp [List.replicate_succ] at h; exact absurd h (hx _)
  | n + 1, 0, x, y, _, hy, h => by simp [List.replicate_succ] at h; exact absurd h.symm (hy _)
  | n + 1, m + 1, x, y, hx, hy, h => by
    simp [List.replicate_succ] at h
    have := stars_pre n m x y hx hy h
    exact ⟨by rw [this.1], this.2⟩
theorem group_pre {N : Nat} (H : TP N) {e f : Ex} (he : e.size ≤ N) (we : e.Wf) (wf : f.Wf) {x y : List UInt8} (h : 40 :: (e.text ++ [41]) ++ x = 40 :: (f.text ++ [41]) ++ y) : e = f ∧ x = y := by
  have h' : e.text ++ (41 :: x) = f.text ++ (41 :: y) := by simpa using h
  have := H e f (41 :: x) (41 :: y) he we wf (.inr ⟨_, rfl⟩) (.inr ⟨_, rfl⟩) h'
  exact ⟨this.1, by simpa using this.2⟩
theorem group_not_eps {e : Ex} (we : e.Wf) (x y : List UInt8) : 40 :: (e.text ++ [41]) ++ x ≠ [40, 41] ++ y := by
  obtain ⟨c, t, e1, hc⟩ := text_start e we
  rw [e1]
  intro h
  simp at h
  exact hc.1 h.1
theorem cls_not40 {s : Ws} (hs : s.Ok) (h : s ≠ Ws.nil) (x y : List UInt8) : textW s ++ x ≠ 40 :: y := by
  obtain ⟨c, t, e1, _, hc⟩ := textW_start hs h
  rw [e1]
  intro h
  simp at h
  exact hc h.1
theorem base_pre {N : Nat} (H : TP N) (e f : Ex) (he : e.size ≤ N ∨ (e.isSeq = false ∧ e.isAlt = false)) (we : e.Wf) (wf : f.Wf) (se : e.isStar = false) (sf : f.isStar = false) {x y : List UInt8} (h : e.item ++ x = f.item ++ y) : e = f ∧ x = y := by
  match e, f, he, we, wf, se, sf, h with
  | .empty, .empty, _, _, _, _, _, h => exact ⟨rfl, by simpa using h⟩
  | .empty, .eps, _, _, _, _, _, h => exact absurd h (by simp [Ex.item, Ex.isSeq, Ex.isAlt, roundL, Ex.text])
  | .empty, .cls t, _, _, wf, _, _, h => exact absurd h.symm (textW_not_empty wf.1 wf.2 y x)
  | .empty, .seq _ _, _, _, _, _, _, h => exact absurd h (by simp [Ex.item, Ex.isSeq, Ex.isAlt, roundL, Ex.text])
  | .empty, .alt _ _, _, _, _, _, _, h => exact absurd h (by simp [Ex.item, Ex.isSeq, Ex.isAlt, roundL, Ex.text])
  | .eps, .empty, _, _, _, _, _, h => exact absurd h (by simp [Ex.item, Ex.isSeq, Ex.isAlt, roundL, Ex.text])
  | .eps, .eps, _, _, _, _, _, h => exact ⟨rfl, by simpa using h⟩
  | .eps, .cls t, _, _, wf, _, _, h => exact absurd h.symm (cls_not40 wf.1 wf.2 y _)
  | .eps, .seq _ _, _, _, wf, _, _, h => exact absurd h.symm (group_not_eps wf y x)
  | .eps, .alt _ _, _, _, wf, _, _, h => exact absurd h.symm (group_not_eps wf y x)
  | .cls s, .empty, _, we, _, _, _, h => exact absurd h (textW_not_empty we.1 we.2 x y)
  | .cls s, .eps, _, we, _, _, _, h => exact absurd h (cls_not40 we.1 we.2 x _)
  | .cls s, .cls t, _, we, wf, _, _, h =>
    have := textW_pre we.1 wf.1 we.2 wf.2 h
    exact ⟨by rw [this.1], this.2⟩
  | .cls s, .seq _ _, _, we, _, _, _, h => exact absurd h (cls_not40 we.1 we.2 x _)
  | .cls s, .alt _ _, _, we, _, _, _, h => exact absurd h (cls_not40 we.1 we.2 x _)
  | .seq _ _, .empty, _, _, _, _, _, h => exact absurd h (by simp [Ex.item, Ex.isSeq, Ex.isAlt, roundL, Ex.text])
  | .seq _ _, .eps, _, we, _, _, _, h => exact absurd h (group_not_eps we x y)
  | .seq _ _, .cls t, _, _, wf, _, _, h => exact absurd h.symm (cls_not40 wf.1 wf.2 y _)
  | .seq a b, .seq c d, he, we, wf, _, _, h => exact group_pre H (by simpa [Ex.isSeq] using he) we wf h
  | .seq a b, .alt c d, he, we, wf, _, _, h => exact group_pre H (by simpa [Ex.isSeq] using he) we wf h
  | .alt _ _, .empty, _, _, _, _, _, h => exact absurd h (by simp [Ex.item, Ex.isSeq, Ex.isAlt, roundL, Ex.text])
  | .alt _ _, .eps, _, we, _, _, _, h => exact absurd h (group_not_eps we x y)
  | .alt _ _, .cls t, _, _, wf, _, _, h => exact absurd h.symm (cls_not40 wf.1 wf.2 y _)
  | .alt a b, .seq c d, he, we, wf, _, _, h => exact group_pre H (by simpa [Ex.isAlt] using he) we wf h
  | .alt a b, .alt c d, he, we, wf, _, _, h => exact group_pre H (by simpa [Ex.isAlt] using he) we wf h
theorem item_pre {N : Nat} (H : TP N) {e f : Ex} (he : e.size ≤ N ∨ (e.isSeq = false ∧ e.isAlt = false ∧ e.size ≤ N + 1)) (we : e.Wf) (wf : f.Wf) {x y : List UInt8} (hx : NoStar x) (hy : NoStar y) (h : e.item ++ x = f.item ++ y) : e = f ∧ x = y := by
  rw [item_base e, item_base f, List.append_assoc, List.append_assoc] at h
  have hs := base_size e
  have hb : e.base.size ≤ N ∨ (e.base.isSeq = false ∧ e.base.isAlt = false) := by
    rcases he with he | ⟨h1, h2, h3⟩
    · exact .inl (by omega)
    · cases e with
      | star a =>
        refine .inl ?_
        have : (Ex.star a).stars = a.stars + 1 := rfl
        omega
      | _ => exact .inr ⟨h1, h2⟩
  have h1 := base_pre H e.base f.base hb (base_wf e we) (base_wf f wf) (base_star e) (base_star f) h
  have h2 := stars_pre _ _ _ _ hx hy h1.2
  exact ⟨base_inj e f h1.1 h2.1, h2.2⟩
theorem part_pre {N : Nat} (H : TP N) : ∀ (e f : Ex) (x y : List UInt8), (e.size ≤ N ∨ (e.isAlt = false ∧ e.size ≤ N + 1)) → e.Wf → f.Wf → Term1 x → Term1 y → e.part ++ x = f.part ++ y → e = f ∧ x = y
  | .seq a b, f, x, y, he, we, wf, hx, hy, h => by
    have hz : (Ex.seq a b).size = 1 + a.size + b.size := rfl
    have ha : a.size ≤ N := by omega
    have hb : b.size ≤ N := by omega
    rw [part_seq, List.append_assoc] at h
    by_cases hf : f.isSeq = true
    · match f, hf, wf, h with
      | .seq c d, _, wf, h =>
        rw [part_seq, List.append_assoc] at h
        have h1 := item_pre H (.inl ha) we.1 wf.1 (noStar_part we.2 x) (noStar_part wf.2 y) h
        have h2 := part_pre H b d x y (.inl hb) we.2 wf.2 hx hy h1.2
        exact ⟨by rw [h1.1, h2.1], h2.2⟩
    · rw [part_item (e := f) (by simpa using hf)] at h
      have h1 := item_pre H (.inl ha) we.1 wf (noStar_part we.2 x) hy.noStar h
      exact (term_not_part we.2 hy h1.2).elim
  | .empty, f, x, y, he, we, wf, hx, hy, h => part_one H rfl he we wf hx hy h
  | .eps, f, x, y, he, we, wf, hx, hy, h => part_one H rfl he we wf hx hy h
  | .cls _, f, x, y, he, we, wf, hx, hy, h => part_one H rfl he we wf hx hy h
  | .alt _ _, f, x, y, he, we, wf, hx, hy, h => part_one H rfl he we wf hx hy h
  | .star _, f, x, y, he, we, wf, hx, hy, h => part_one H rfl he we wf hx hy h
where
  part_one {N : Nat} (H : TP N) {e f : Ex} {x y : List UInt8} (hse : e.isSeq = false) (he : e.size ≤ N ∨ (e.isAlt = false ∧ e.size ≤ N + 1)) (we : e.Wf) (wf : f.Wf) (hx : Term1 x) (hy : Term1 y) (h : e.part ++ x = f.part ++ y) : e = f ∧ x = y := by
    rw [part_item hse] at h
    have he' : e.size ≤ N ∨ (e.isSeq = false ∧ e.isAlt = false ∧ e.size ≤ N + 1) := by
      rcases he with he | ⟨h1, h2⟩
      · exact .inl he
      · exact .inr ⟨hse, h1, h2⟩
    by_cases hf : f.isSeq = true
    · match f, hf, wf, h with
      | .seq c d, _, wf, h =>
        rw [part_seq, List.append_assoc] at h
        have h1 := item_pre H he' we wf.1 hx.noStar (noStar_part wf.2 y) h
        exact (term_not_part wf.2 hx h1.2.symm).elim
    · rw [part_item (by simpa using hf)] at h
      exact item_pre H he' we wf hx.noStar hy.noStar h
theorem Term0.one {x : List UInt8} (h : Term0 x) : Term1 x := by
  rcases h with h | h
  · exact .inl h
  · exact .inr (.inl h)
theorem text_pre (N : Nat) : TP N := by
  induction N with
  | zero =>
    intro e f x y he
    have : 0 < e.size := by cases e <;> simp [Ex.size] <;> omega
    omega
  | succ N H =>
    intro e f x y he we wf hx hy h
    by_cases hea : e.isAlt = true
    · match e, hea, he, we, h with
      | .alt a b, _, he, we, h =>
        have hz : (Ex.alt a b).size = 1 + a.size + b.size := rfl
        rw [text_alt, List.append_assoc, List.cons_append] at h
        by_cases hfa : f.isAlt = true
        · match f, hfa, wf, h with
          | .alt c d, _, wf, h =>
            rw [text_alt, List.append_assoc, List.cons_append] at h
            have h1 := part_pre H a c _ _ (.inl (by omega)) we.1 wf.1 (.inr (.inr ⟨_, rfl⟩)) (.inr (.inr ⟨_, rfl⟩)) h
            have h2 := H b d x y (by omega) we.2 wf.2 hx hy (by simpa using h1.2)
            exact ⟨by rw [h1.1, h2.1], h2.2⟩
        · rw [← part_text (e := f) (by simpa using hfa)] at h
          have h1 := part_pre H a f _ _ (.inl (by omega)) we.1 wf (.inr (.inr ⟨_, rfl⟩)) hy.one h
          rcases hy with hy | ⟨t, hy⟩
          · rw [hy] at h1; simp at h1
          · rw [hy] at h1; simp at h1
    · rw [← part_text (e := e) (by simpa using hea)] at h
      by_cases hfa : f.isAlt = true
      · match f, hfa, wf, h with
        | .alt c d, _, wf, h =>
          rw [text_alt, List.append_assoc, List.cons_append] at h
          have h1 := part_pre H e c _ _ (.inr ⟨by simpa using hea, he⟩) we wf.1 hx.one (.inr (.inr ⟨_, rfl⟩)) h
          rcases hx with hx | ⟨t, hx⟩
          · rw [hx] at h1; simp at h1
          · rw [hx] at h1; simp at h1
      · rw [← part_text (e := f) (by simpa using hfa)] at h
        exact part_pre H e f x y (.inr ⟨by simpa using hea, he⟩) we wf hx.one hy.one h
/-- Unlike expressions that may be have unlike texts. -/
theorem text_inj {e f : Ex} (we : e.Wf) (wf : f.Wf) (h : e.text = f.text) : e = f :=
  (text_pre e.size e f [] [] (Nat.le_refl _) we wf (.inl rfl) (.inl rfl) (by simpa using h)).1
theorem round_length (s : List UInt8) (b : Bool) : (roundL s b).length ≤ s.length + 2 := by
  unfold roundL; split <;> simp
theorem text_length : ∀ e : Ex, e.text.length ≤ 2010 * e.size
  | .empty => by simp [Ex.text, Ex.size]
  | .eps => by simp [Ex.text, Ex.size]
  | .cls s => by have := textW_length s; simp [Ex.text, Ex.size]; omega
  | .seq a b => by
    have h1 := text_length a
    have h2 := text_length b
    have h3 := round_length a.text (a.isSeq || a.isAlt)
    have h4 := round_length b.text b.isAlt
    simp [Ex.text, Ex.size]; omega
  | .alt a b => by
    have h1 := text_length a
    have h2 := text_length b
    have h3 := round_length a.text a.isAlt
    simp [Ex.text, Ex.size]; omega
  | .star a => by
    have h1 := text_length a
    have h3 := round_length a.text (a.isSeq || a.isAlt)
    simp [Ex.text, Ex.size]; omega
theorem text_ne {e : Ex} (h : e.Wf) : e.text ≠ [] := by
  obtain ⟨c, t, e1, _⟩ := text_start e h
  rw [e1]; simp
end Go.Proofs.YtfmdcnfniimkoaaGreat
/- What layer 7 tells of an expression that may be; no program. -/
namespace Go.Proofs.YtfmdcnfniimkoaaGreat
/-- It fits the empty text. -/
def Ex.nul : Ex → Bool
  | .empty => false
  | .eps => true
  | .cls _ => false
  | .seq a b => a.nul && b.nul
  | .alt a b => a.nul || b.nul
  | .star _ => true
/-- It fits some text. -/
def Ex.fit : Ex → Bool
  | .empty => false
  | .eps => true
  | .cls _ => true
  | .seq a b => a.fit && b.fit
  | .alt a b => a.fit || b.fit
  | .star _ => true
/-- Its first bytes. -/
def Ex.fst : Ex → Ws
  | .empty => Ws.nil
  | .eps => Ws.nil
  | .cls s => s
  | .seq a b => if (a.fit && b.fit) = true then (if a.nul = true then a.fst.join b.fst else a.fst) else Ws.nil
  | .alt a b => if (a.fit || b.fit) = true then a.fst.join b.fst else Ws.nil
  | .star a => a.fst
/-- A text comes ahead of another one: it is shorter, or as long and less. -/
def lessL : List UInt8 → List UInt8 → Bool
  | [], _ => false
  | _ :: _, [] => false
  | a :: s, b :: t => if a = b then lessL s t else decide (a.toNat < b.toNat)
def aheadL (a b : List UInt8) : Bool := if a.length = b.length then lessL a b else decide (a.length < b.length)
/-- The first one of the shortest texts. -/
def Ex.shr : Ex → Option (List UInt8)
  | .empty => none
  | .eps => some []
  | .cls s => some ((bytesN s).take 1 |>.map UInt8.ofNat)
  | .seq a b => match a.shr, b.shr with
    | some x, some y => if x.length + y.length ≤ 100 then some (x ++ y) else none
    | _, _ => none
  | .alt a b => match a.shr, b.shr with
    | some x, some y => if aheadL y x = true then some y else some x
    | some x, none => some x
    | none, y => y
  | .star _ => some []
theorem fst_ok : ∀ e : Ex, e.Wf → e.fst.Ok
  | .empty, _ => Ws.nil_ok
  | .eps, _ => Ws.nil_ok
  | .cls s, h => h.1
  | .seq a b, h => by
    simp only [Ex.fst]
    split
    · split
      · exact Ws.join_ok (fst_ok a h.1) (fst_ok b h.2)
      · exact fst_ok a h.1
    · exact Ws.nil_ok
  | .alt a b, h => by
    simp only [Ex.fst]
    split
    · exact Ws.join_ok (fst_ok a h.1) (fst_ok b h.2)
    · exact Ws.nil_ok
  | .star a, h => fst_ok a h
theorem nul_fit : ∀ e : Ex, e.nul = true → e.fit = true
  | .empty, h => by cases h
  | .eps, _ => rfl
  | .cls _, _ => rfl
  | .seq a b, h => by
    simp only [Ex.nul, Bool.and_eq_true] at h
    simp only [Ex.fit, nul_fit a h.1, nul_fit b h.2, Bool.and_self]
  | .alt a b, h => by
    simp only [Ex.nul, Bool.or_eq_true] at h
    simp only [Ex.fit, Bool.or_eq_true]
    rcases h with h | h
    · exact .inl (nul_fit a h)
    · exact .inr (nul_fit b h)
  | .star _, _ => rfl
theorem join_nil_iff {s t : Ws} (hs : s.Ok) (ht : t.Ok) : s.join t = Ws.nil ↔ s = Ws.nil ∧ t = Ws.nil := by
  constructor
  · intro h
    have hh : ∀ n, n < 256 → (s.has n || t.has n) = false := fun n _ => by rw [← Ws.has_join, h, Ws.has_nil]
    refine ⟨Ws.has_ext hs Ws.nil_ok fun n hn => ?_, Ws.has_ext ht Ws.nil_ok fun n hn => ?_⟩
    · have := hh n hn
      simp only [Bool.or_eq_false_iff] at this
      rw [this.1, Ws.has_nil]
    · have := hh n hn
      simp only [Bool.or_eq_false_iff] at this
      rw [this.2, Ws.has_nil]
  · rintro ⟨rfl, rfl⟩
    rfl
/-- One that fits nothing has no first bytes; one that fits something, but not the empty text, has some. -/
theorem fst_void : ∀ e : Ex, e.Wf → (e.fit = false → e.fst = Ws.nil) ∧ (e.fit = true → e.nul = false → e.fst ≠ Ws.nil)
  | .empty, _ => ⟨fun _ => rfl, fun h => (by cases h)⟩
  | .eps, _ => ⟨fun h => (by cases h), fun _ h => (by cases h)⟩
  | .cls s, h => ⟨fun h' => (by cases h'), fun _ _ => h.2⟩
  | .seq a b, h => by
    have ha := fst_void a h.1
    have hb := fst_void b h.2
    refine ⟨fun hf => ?_, fun hf hn => ?_⟩
    · simp only [Ex.fit] at hf
      simp only [Ex.fst, hf]
      rfl
    · simp only [Ex.fit] at hf
      simp only [Ex.nul] at hn
      simp only [Ex.fst, hf, if_true]
      simp only [Bool.and_eq_true] at hf
      cases hna : a.nul with
      | true =>
        rw [hna] at hn
        simp only [Bool.true_and] at hn
        simp only [if_true]
        intro e
        exact hb.2 hf.2 hn ((join_nil_iff (fst_ok a h.1) (fst_ok b h.2)).1 e).2
      | false =>
        simp only [Bool.false_eq_true, if_false]
        exact ha.2 hf.1 hna
  | .alt a b, h => by
    have ha := fst_void a h.1
    have hb := fst_void b h.2
    refine ⟨fun hf => ?_, fun hf hn => ?_⟩
    · simp only [Ex.fit] at hf
      simp only [Ex.fst, hf]
      rfl
    · simp only [Ex.fit] at hf
      simp only [Ex.nul, Bool.or_eq_false_iff] at hn
      simp only [Ex.fst, hf, if_true]
      intro e
      obtain ⟨e1, e2⟩ := (join_nil_iff (fst_ok a h.1) (fst_ok b h.2)).1 e
      simp only [Bool.or_eq_true] at hf
      rcases hf with hf | hf
      · exact ha.2 hf hn.1 e1
      · exact hb.2 hf hn.2 e2
  | .star a, _ => ⟨fun h => (by cases h), fun _ h => (by cases h)⟩
end Go.Proofs.YtfmdcnfniimkoaaGreat
/- The first one of the shortest texts begins with one of the first bytes; of two behind one another, of one of two; no program. -/
namespace Go.Proofs.YtfmdcnfniimkoaaGreat
theorem shr_seq (a b : Ex) : (Ex.seq a b).shr = match a.shr, b.shr with
    | some x, some y => if x.length + y.length ≤ 100 then some (x ++ y) else none
    | _, _ => none := rfl
theorem shr_alt (a b : Ex) : (Ex.alt a b).shr = match a.shr, b.shr with
    | some x, some y => if aheadL y x = true then some y else some x
    | some x, none => some x
    | none, y => y := rfl
theorem seq_shr {a b : Ex} {z : List UInt8} (h : (Ex.seq a b).shr = some z) : ∃ x y, a.shr = some x ∧ b.shr = some y ∧ z = x ++ y := by
  rw [shr_seq] at h
  cases ha : a.shr with
  | none => rw [ha] at h; cases h
  | some x =>
    cases hb : b.shr with
    | none => rw [ha, hb] at h; cases h
    | some y =>
      rw [ha, hb] at h
      simp only at h
      split at h
      · cases h; exact ⟨x, y, rfl, rfl, rfl⟩
      · cases h
theorem alt_shr {a b : Ex} {z : List UInt8} (h : (Ex.alt a b).shr = some z) : a.shr = some z ∨ b.shr = some z := by
  rw [shr_alt] at h
  cases ha : a.shr with
  | none => rw [ha] at h; exact .inr h
  | some x =>
    cases hb : b.shr with
    | none => rw [ha, hb] at h; exact .inl h
    | some y =>
      rw [ha, hb] at h
      simp only at h
      split at h
      · exact .inr h
      · exact .inl h
theorem shr_fit : ∀ (e : Ex) (x : List UInt8), e.shr = some x → e.fit = true
  | .empty, _, h => by cases h
  | .eps, _, _ => rfl
  | .cls _, _, _ => rfl
  | .star _, _, _ => rfl
  | .seq a b, _, h => by
    obtain ⟨x, y, h1, h2, _⟩ := seq_shr h
    simp only [Ex.fit, shr_fit a _ h1, shr_fit b _ h2, Bool.and_self]
  | .alt a b, _, h => by
    simp only [Ex.fit, Bool.or_eq_true]
    rcases alt_shr h with h | h
    · exact .inl (shr_fit a _ h)
    · exact .inr (shr_fit b _ h)
theorem bytesN_ne {s : Ws} (hs : s.Ok) (h : s ≠ Ws.nil) : bytesN s ≠ [] := by
  intro e
  refine h (bytesN_inj hs Ws.nil_ok ?_)
  rw [e]
  unfold bytesN
  rw [eq_comm, List.filter_eq_nil_iff]
  intro n _
  rw [Ws.has_nil]; simp
theorem shr_nil : ∀ (e : Ex), e.Wf → e.shr = some [] → e.nul = true
  | .empty, _, h => by cases h
  | .eps, _, _ => rfl
  | .cls s, we, h => by
    have hne := bytesN_ne we.1 we.2
    have h' : some ((bytesN s).take 1 |>.map UInt8.ofNat) = some ([] : List UInt8) := h
    cases hb : bytesN s with
    | nil => exact absurd hb hne
    | cons n l => rw [hb] at h'; simp at h'
  | .star _, _, _ => rfl
  | .seq a b, we, h => by
    obtain ⟨x, y, h1, h2, h3⟩ := seq_shr h
    have h4 := List.append_eq_nil_iff.1 h3.symm
    simp only [Ex.nul, shr_nil a we.1 (by rw [h1, h4.1]), shr_nil b we.2 (by rw [h2, h4.2]), Bool.and_self]
  | .alt a b, we, h => by
    simp only [Ex.nul, Bool.or_eq_true]
    rcases alt_shr h with h | h
    · exact .inl (shr_nil a we.1 h)
    · exact .inr (shr_nil b we.2 h)
theorem shr_first : ∀ (e : Ex), e.Wf → ∀ c t, e.shr = some (c :: t) → e.fst.has c.toNat = true
  | .empty, _, _, _, h => by cases h
  | .eps, _, _, _, h => by cases h
  | .cls s, we, c, t, h => by
    have h' : some ((bytesN s).take 1 |>.map UInt8.ofNat) = some (c :: t) := h
    cases hb : bytesN s with
    | nil => rw [hb] at h'; simp at h'
    | cons n l =>
      rw [hb] at h'
      simp at h'
      have hm : n ∈ bytesN s := by rw [hb]; simp
      obtain ⟨h1, h2⟩ := (mem_bytesN s n).1 hm
      rw [← h'.1]
      have : (UInt8.ofNat n).toNat = n := UInt8.toNat_ofNat_of_lt' (by show n < 256; omega)
      rw [this]
      exact h2
  | .star _, _, _, _, h => by cases h
  | .seq a b, we, c, t, h => by
    have hf := shr_fit _ _ h
    obtain ⟨x, y, h1, h2, h3⟩ := seq_shr h
    simp only [Ex.fit] at hf
    simp only [Ex.fst, hf, if_true]
    cases x with
    | nil =>
      rw [shr_nil a we.1 h1]
      simp only [if_true]
      have h4 : y = c :: t := by simpa using h3.symm
      rw [Ws.has_join, shr_first b we.2 c t (by rw [h2, h4]), Bool.or_true]
    | cons d x =>
      simp only [List.cons_append, List.cons.injEq] at h3
      obtain ⟨rfl, _⟩ := h3
      have ha := shr_first a we.1 c x h1
      split
      · rw [Ws.has_join, ha, Bool.true_or]
      · exact ha
  | .alt a b, we, c, t, h => by
    have hf := shr_fit _ _ h
    simp only [Ex.fit] at hf
    simp only [Ex.fst, hf, if_true]
    rw [Ws.has_join]
    rcases alt_shr h with h | h
    · rw [shr_first a we.1 c t h, Bool.true_or]
    · rw [shr_first b we.2 c t h, Bool.or_true]
/-- One of two begins as the one or the other does. -/
theorem fst_alt (a b : Ex) (wa : a.Wf) (wb : b.Wf) : (Ex.alt a b).fst = a.fst.join b.fst := by
  simp only [Ex.fst]
  split
  · rfl
  · rename_i h
    simp only [Bool.or_eq_true, not_or, Bool.not_eq_true] at h
    rw [(fst_void a wa).1 h.1, (fst_void b wb).1 h.2]
    rfl
end Go.Proofs.YtfmdcnfniimkoaaGreat
/- How an expression's texts begin, told by its kids' beginnings; no program. -/
namespace Go.Proofs.YtfmdcnfniimkoaaGreat
theorem Ws.nil_join (s : Ws) : Ws.nil.join s = s := by
  obtain ⟨a, b, c, d⟩ := s
  simp [Ws.join, Ws.nil]
theorem join_two (s t : Ws) : [s, t].foldl Ws.join Ws.nil = s.join t := by
  show (Ws.nil.join s).join t = s.join t
  rw [Ws.nil_join]
instance decWs (s t : Ws) : Decidable (s = t) :=
  if h : s.a = t.a ∧ s.b = t.b ∧ s.c = t.c ∧ s.d = t.d then .isTrue (by cases s; cases t; simp at h; simp [h]) else .isFalse (fun e => h (by simp [e]))
def bareW (s : Ws) : Bool := decide (s = Ws.nil)
theorem bareW_iff {s : Ws} : bareW s = true ↔ s = Ws.nil := by simp [bareW]
theorem void_fit (e : Ex) (we : e.Wf) : (!e.nul && bareW e.fst) = !e.fit := by
  have h := fst_void e we
  cases hf : e.fit with
  | false =>
    have hn : e.nul = false := by
      cases h2 : e.nul with
      | false => rfl
      | true => rw [nul_fit e h2] at hf; cases hf
    rw [hn, h.1 hf]; rfl
  | true =>
    cases hn : e.nul with
    | true => rfl
    | false =>
      have := h.2 hf hn
      simp [bareW, this]
def bothN (na nb : Bool) (fa fb : Ws) : Bool × Ws := if (!nb && bareW fb) = true then (nb, fb) else if na = true then (nb, fa.join fb) else (na, fa)
theorem both_seq (a b : Ex) (wa : a.Wf) (wb : b.Wf) : bothN a.nul b.nul a.fst b.fst = ((Ex.seq a b).nul, (Ex.seq a b).fst) := by
  unfold bothN
  rw [void_fit b wb]
  simp only [Ex.nul, Ex.fst]
  cases hb : b.fit with
  | false =>
    have hn : b.nul = false := by
      cases h2 : b.nul with
      | false => rfl
      | true => rw [nul_fit b h2] at hb; cases hb
    simp [hn, (fst_void b wb).1 hb]
  | true =>
    cases hn : a.nul with
    | true => simp [nul_fit a hn]
    | false =>
      cases ha : a.fit with
      | true => simp
      | false => simp [(fst_void a wa).1 ha]
end Go.Proofs.YtfmdcnfniimkoaaGreat
/- A block with room for expressions, six cells each: stores into it. -/
namespace Go.Proofs.YtfmdcnfniimkoaaGreat
open Go.RowKit
/-- A block of n cells. -/
def Room (w : World) (g n : Nat) : Prop := ∃ arr, w.heap[g]? = some (.cells arr 27) ∧ arr.size = n
theorem Room.lt {w : World} {g n : Nat} (h : Room w g n) : g < w.heap.size := by
  obtain ⟨arr, h, _⟩ := h
  exact (Array.getElem?_eq_some_iff.1 h).1
theorem Room.of {w w' : World} {g n : Nat} (h : Room w g n) (e : w'.heap[g]? = w.heap[g]?) : Room w' g n := by
  obtain ⟨arr, h, hs⟩ := h
  exact ⟨arr, e.trans h, hs⟩
theorem Room.cells {w : World} {g n : Nat} (h : Room w g n) (o : Nat) (ho : o < n) : (∃ v, w.cell? ⟨g, o, none⟩ = some v) ∧ w.frozen? ⟨g, o, none⟩ = false := by
  obtain ⟨arr, h, hs⟩ := h
  refine ⟨⟨arr[o]'(by omega), ?_⟩, Lib.frozen_of_heap h o⟩
  rw [Lib.cell_of_heap h]
  simp [hs, ho]
theorem setCell_at {w : World} {g : Nat} {arr : Array Value} (h : w.heap[g]? = some (.cells arr 27)) (o : Nat) (y : Value) : (w.setCell ⟨g, o, none⟩ y).heap[g]? = some (.cells (arr.setIfInBounds o y) 27) := by
  simp [World.setCell, Array.getElem?_modify, h]
def put6 (w : World) (g off : Nat) (y0 y1 y2 y3 y4 y5 : Value) : World := (((((w.setCell ⟨g, off, none⟩ y0).setCell ⟨g, off + 1, none⟩ y1).setCell ⟨g, off + 2, none⟩ y2).setCell ⟨g, off + 3, none⟩ y3).setCell ⟨g, off + 4, none⟩ y4).setCell ⟨g, off + 5, none⟩ y5
theorem put6_size (w : World) (g off : Nat) (y0 y1 y2 y3 y4 y5 : Value) : (put6 w g off y0 y1 y2 y3 y4 y5).heap.size = w.heap.size := by simp [put6, World.setCell]
theorem put6_other (w : World) (g off : Nat) (y0 y1 y2 y3 y4 y5 : Value) {b : Nat} (hb : b ≠ g) : (put6 w g off y0 y1 y2 y3 y4 y5).heap[b]? = w.heap[b]? := by
  unfold put6
  rw [Below.heap_setCell _ _ _ _ hb, Below.heap_setCell _ _ _ _ hb, Below.heap_setCell _ _ _ _ hb, Below.heap_setCell _ _ _ _ hb, Below.heap_setCell _ _ _ _ hb, Below.heap_setCell _ _ _ _ hb]
theorem put6_at {w : World} {g n off : Nat} (h : Room w g n) (ho : off + 6 ≤ n) (y0 y1 y2 y3 y4 y5 : Value) :
    Room (put6 w g off y0 y1 y2 y3 y4 y5) g n ∧
    ((put6 w g off y0 y1 y2 y3 y4 y5).cell? ⟨g, off, none⟩ = some y0 ∧ (put6 w g off y0 y1 y2 y3 y4 y5).cell? ⟨g, off + 1, none⟩ = some y1 ∧ (put6 w g off y0 y1 y2 y3 y4 y5).cell? ⟨g, off + 2, none⟩ = some y2 ∧ (put6 w g off y0 y1 y2 y3 y4 y5).cell? ⟨g, off + 3, none⟩ = some y3 ∧ (put6 w g off y0 y1 y2 y3 y4 y5).cell? ⟨g, off + 4, none⟩ = some y4 ∧ (put6 w g off y0 y1 y2 y3 y4 y5).cell? ⟨g, off + 5, none⟩ = some y5) ∧
    ∀ o, o < off ∨ off + 6 ≤ o → (put6 w g off y0 y1 y2 y3 y4 y5).cell? ⟨g, o, none⟩ = w.cell? ⟨g, o, none⟩ := by
  obtain ⟨arr, h, hs⟩ := h
  have e := setCell_at (setCell_at (setCell_at (setCell_at (setCell_at (setCell_at h off y0) (off + 1) y1) (off + 2) y2) (off + 3) y3) (off + 4) y4) (off + 5) y5
  have c := fun o => Lib.cell_of_heap (w := put6 w g off y0 y1 y2 y3 y4 y5) (j := o) e
  refine ⟨⟨_, e, by simp [hs]⟩, ⟨?_, ?_, ?_, ?_, ?_, ?_⟩, ?_⟩
  · rw [c]; simp [Array.getElem?_setIfInBounds, hs]; omega
  · rw [c]; simp [Array.getElem?_setIfInBounds, hs]; omega
  · rw [c]; simp [Array.getElem?_setIfInBounds, hs]; omega
  · rw [c]; simp [Array.getElem?_setIfInBounds, hs]; omega
  · rw [c]; simp [Array.getElem?_setIfInBounds, hs]; omega
  · rw [c]; simp [Array.getElem?_setIfInBounds, hs]; omega
  · intro o h'
    rw [c, Lib.cell_of_heap h]
    have n0 : ¬ off = o := by omega
    have n1 : ¬ off + 1 = o := by omega
    have n2 : ¬ off + 2 = o := by omega
    have n3 : ¬ off + 3 = o := by omega
    have n4 : ¬ off + 4 = o := by omega
    have n5 : ¬ off + 5 = o := by omega
    simp [n0, n1, n2, n3, n4, n5]
theorem put6_below {w w' : World} {B g : Nat} (h : Below B w w') (hg : B ≤ g) (off : Nat) (y0 y1 y2 y3 y4 y5 : Value) : Below B w (put6 w' g off y0 y1 y2 y3 y4 y5) :=
  (((((h.setCell (p := ⟨g, off, none⟩) hg _).setCell (p := ⟨g, off + 1, none⟩) hg _).setCell (p := ⟨g, off + 2, none⟩) hg _).setCell (p := ⟨g, off + 3, none⟩) hg _).setCell (p := ⟨g, off + 4, none⟩) hg _).setCell (p := ⟨g, off + 5, none⟩) hg _
/-- A node whose cells stay, and whose rows lie elsewhere, stays. -/
theorem NodeAt.cells {ok ok' : Nat → Prop} {w w' : World} {b off : Nat} {r : Rx} (h : NodeAt ok w b off r) (hk : Kept ok ok' w w') (hc : ∀ o, off ≤ o → o < off + 6 → w'.cell? ⟨b, o, none⟩ = w.cell? ⟨b, o, none⟩) : NodeAt ok' w' b off r := by
  obtain ⟨k, s, ks⟩ := r
  unfold NodeAt at h ⊢
  obtain ⟨h0, hs, ⟨c0, c1, c2, c3, c4⟩, al, cap, c5, h1, h2, h3⟩ := h
  refine ⟨h0, hs, ⟨by rw [hc _ (by omega) (by omega)]; exact c0, by rw [hc _ (by omega) (by omega)]; exact c1, by rw [hc _ (by omega) (by omega)]; exact c2, by rw [hc _ (by omega) (by omega)]; exact c3, by rw [hc _ (by omega) (by omega)]; exact c4⟩, al, cap, by rw [hc _ (by omega) (by omega)]; exact c5, h1, h2, ?_⟩
  rcases h3 with h3 | ⟨b', off', e1, e2, e3, e4⟩
  · exact .inl h3
  · have hh := hk.2 b' e2 e3
    exact .inr ⟨b', off', e1, Nat.lt_of_lt_of_le e2 hk.1, hh.1, NodesAt.go hk ks hh.2 e4⟩
/-- One node more in a row: the rows of all nodes lie elsewhere. -/
theorem nodes_push {ok : Nat → Prop} {w : World} {g n : Nat} {l : List Rx} {r : Rx} {x0 x1 x2 x3 x4 x5 : Value} (hr : Room w g n) (hl : (l.length + 1) * 6 ≤ n) (hg : ¬ ok g) (h : NodesAt ok w g 0 l) (hv : ReAt ok w (.agg #[x0, x1, x2, x3, x4, x5]) r) :
    NodesAt ok (put6 w g (l.length * 6) x0 x1 x2 x3 x4 x5) g 0 (l ++ [r]) := by
  obtain ⟨hR, ⟨c0, c1, c2, c3, c4, c5⟩, hfar⟩ := put6_at hr (off := l.length * 6) (by omega) x0 x1 x2 x3 x4 x5
  have hk : Kept ok ok w (put6 w g (l.length * 6) x0 x1 x2 x3 x4 x5) := ⟨by rw [put6_size]; exact Nat.le_refl _, fun b _ hb => ⟨hb, put6_other _ _ _ _ _ _ _ _ _ (fun e => hg (e ▸ hb))⟩⟩
  refine nodesAt_of fun i hi => ?_
  by_cases e : i < l.length
  · rw [List.getElem_append_left e]
    exact (nodesAt_get h i e).cells hk fun o h1 h2 => hfar o (.inl (by omega))
  · have : i = l.length := by simp at hi; omega
    subst this
    rw [List.getElem_append_right (Nat.le_refl _)]
    simp only [Nat.sub_self, List.getElem_cons_zero, Nat.zero_add]
    exact node_at (hv.go hk) c0 c1 c2 c3 c4 c5
theorem room_made (w : World) (z : Array Value) (n : Nat) : Room (w.alloc (.cells (madeCells z n) 27)) w.heap.size n := ⟨_, blk_new w _, size_madeCells z n⟩
def zeroR : Array Value := #[.int .u8 0, .int .u64 0, .int .u64 0, .int .u64 0, .int .u64 0, .slice none 0 0]
theorem make_re (n : Nat) (hn : n < 2199023255552) (u : World) : (Instr.makeSlice 25 (.int .i64 (n : Int)) (.int .i64 (n : Int))).run Tryz.prog u =
    .ok (.slice (some ⟨u.heap.size, 0, none⟩) n n) (u.alloc (.cells (madeCells zeroR (n * 6)) 27)) := by
  obtain ⟨i0, hi, hz0, hz1, hz2⟩ := info_parts infoR
  have h := run_make (P := Tryz.prog) u 25 27 i0 _ Tryz.underlying25 hi hz0 .i64 .i64 (n : Int) (n : Int) (by omega) (Int.le_refl _) (by rw [hz2]; omega) (by omega)
  simpa [hz1, Value.cells, zeroR] using h
end Go.Proofs.YtfmdcnfniimkoaaGreat
/- rex.clone. -/
namespace Go.Proofs.YtfmdcnfniimkoaaGreat
open Go.RowKit
def nilBlk : Obj := .cells #[.int .u8 0, .int .u64 0, .int .u64 0, .int .u64 0, .int .u64 0, .slice none 0 0] 27
def reBlk (k a b c d : Nat) (sl : Value) : Obj := .cells #[.int .u8 k, .int .u64 a, .int .u64 b, .int .u64 c, .int .u64 d, sl] 27
def cloneInv (k a b c d : Nat) (sl : Value) (ks : List Rx) (w : World) (y : Value) (wr : World) : Prop := ∃ i : Nat, i ≤ ks.length ∧ y = .int .i64 i ∧
  wr.heap[w.heap.size]? = some (reBlk k a b c d sl) ∧ wr.heap[w.heap.size + 1]? = some nilBlk ∧ Room wr (w.heap.size + 2) (ks.length * 6) ∧
  NodesAt (New (w.heap.size + 3)) wr (w.heap.size + 2) 0 (ks.take i) ∧ Below w.heap.size w wr
set_option maxHeartbeats 4000000 in
theorem clone_any (N : Nat) : ∀ (r : Rx), r.size ≤ N → ∀ (ok : Nat → Prop) (v : Value) (w : World), ReAt ok w v r →
    Calls Tryz.prog 82 #[v] w (NewPost r w) := by
  induction N with
  | zero => intro r h; have := r.size_pos; omega
  | succ N ih =>
    rintro ⟨k, s, ks⟩ hN ok v w hR
    obtain ⟨hk, hs, al, cap, rfl, hcap, hmax, hrow⟩ := hR
    have hN' : Rx.sizes ks ≤ N := by simp [Rx.size] at hN; omega
    have IH := Lib.hid ih
    have HR := Lib.hid hrow
    obtain ⟨sa, sb, sc, sd⟩ := s
    clear ih hrow hN
    by_cases hks : ks = []
    · subst hks
      go_enter Tryz.func82, Tryz.ntmps82
      go_wp2
      refine ret_re (blk_at _ _ (by simp)) Tryz.results82 rfl rfl ⟨_, rfl, ?_, ((Below.refl _ w).alloc (Nat.le_refl _) _).alloc (by simp) _⟩
      exact bareAt _ _ k ⟨sa, sb, sc, sd⟩ hk hs
    · have hpos : 0 < ks.length := List.length_pos_iff.2 hks
      have e0 : ((ks.length : Int) == 0) = false := by simp; omega
      have hmk := make_re ks.length hmax
      clear hks
      go_enter Tryz.func82, Tryz.ntmps82
      go_wp2
      go_loopw [19] (fun y wr => cloneInv k sa sb sc sd (.slice al ks.length cap) ks w y wr) (fun y _ => ks.length - (intOf y).toNat)
      case atStart =>
        refine ⟨0, Nat.zero_le _, rfl, ?_, ?_, ?_, by simp only [List.take_zero]; unfold NodesAt; trivial, (((Below.refl _ w).alloc (Nat.le_refl _) _).alloc (by simp) _).alloc (by simp; omega) _⟩
        · exact (Below.heap_alloc _ _ _ (by simp; omega)).trans ((Below.heap_alloc _ _ _ (by simp)).trans (blk_new w _))
        · exact (Below.heap_alloc _ _ _ (by simp)).trans (blk_at _ _ (by simp))
        · have := room_made ((w.alloc (reBlk k sa sb sc sd (.slice al ks.length cap))).alloc nilBlk) zeroR (ks.length * 6)
          simpa [reBlk, nilBlk] using this
      case round =>
        obtain ⟨i, hi, rfl, hb0, hb1, hroom, hnodes, hb⟩ := hrel
        have HB0 := Lib.hid hb0
        have HB1 := Lib.hid hb1
        have HN := Lib.hid hnodes
        have HM := Lib.hid hroom
        clear hb0 hb1 hnodes hroom
        by_cases hlt : i < ks.length
        · obtain ⟨b, off, hab, hblt, hnode⟩ := HR.out.kid hlt
          subst hab
          have hkid := NodeAt.below hb _ hblt hnode
          have hkz := size_kid hlt
          have htk : ks.take (i + 1) = ks.take i ++ [ks[i]] := List.take_succ_eq_append_getElem hlt
          have hlen : (ks.take i).length = i := by simp; omega
          have HTK := Lib.hid htk
          have HLEN := Lib.hid hlen
          clear htk hlen
          generalize ks[i] = kid at *
          obtain ⟨k', ⟨ta, tb, tc, td⟩, ks'⟩ := kid
          obtain ⟨al', cap', ⟨c0, c1, c2, c3, c4, c5⟩, hre⟩ := hkid.read
          simp only at c0 c1 c2 c3 c4 c5
          have HRE := Lib.hid hre
          clear hkid hnode hre
          go_wp2_with fail
          refine (IH.out _ (by omega) ok _ _ (HRE.out.below ((Below.refl _ wr).alloc (Nat.le_refl _) _))).mono ?_
          rintro e w3 ⟨v, rfl, hv, hb3⟩
          obtain ⟨x0, x1, x2, x3, x4, bl, n', cp, rfl⟩ := cells_re hv
          have hgk := HM.out.lt
          have hbr : Below wr.heap.size wr w3 := ((Below.refl _ wr).alloc (Nat.le_refl _) _).trans (hb3.mono (by simp))
          have hroom : Room w3 (w.heap.size + 1 + 1) (ks.length * 6) := HM.out.of (hbr.block _ hgk)
          have hnodes : NodesAt (New (w.heap.size + 3)) w3 (w.heap.size + 1 + 1) 0 (ks.take i) := NodesAt.below hbr _ hgk HN.out
          have hv3 := hv.imp (ok' := New (w.heap.size + 3)) fun b _ h => by
            unfold New at h ⊢; simp at h; omega
          have hlen := HLEN.out
          have hpush := nodes_push hroom (by rw [hlen]; omega) (by unfold New; omega) hnodes hv3
          rw [hlen, ← HTK.out] at hpush
          have hput := (put6_at hroom (off := i * 6) (by omega) (.int .u8 x0) (.int .u64 x1) (.int .u64 x2) (.int .u64 x3) (.int .u64 x4) (.slice bl n' cp)).1
          have hbp := put6_below (hb.trans (hbr.mono hb.size)) (g := w.heap.size + 1 + 1) (by omega) (i * 6) (.int .u8 x0) (.int .u64 x1) (.int .u64 x2) (.int .u64 x3) (.int .u64 x4) (.slice bl n' cp)
          have ho := fun b (h : b ≠ w.heap.size + 1 + 1) => put6_other w3 (w.heap.size + 1 + 1) (i * 6) (.int .u8 x0) (.int .u64 x1) (.int .u64 x2) (.int .u64 x3) (.int .u64 x4) (.slice bl n' cp) h
          have h0 := (ho w.heap.size (by omega)).trans ((hbr.block _ (by omega)).trans HB0.out)
          have h1 := (ho (w.heap.size + 1) (by omega)).trans ((hbr.block _ (by omega)).trans HB1.out)
          obtain ⟨⟨z0, q0⟩, f0⟩ := hroom.cells (i * 6) (by omega)
          obtain ⟨⟨z1, q1⟩, f1⟩ := hroom.cells (i * 6 + 1) (by omega)
          obtain ⟨⟨z2, q2⟩, f2⟩ := hroom.cells (i * 6 + 2) (by omega)
          obtain ⟨⟨z3, q3⟩, f3⟩ := hroom.cells (i * 6 + 3) (by omega)
          obtain ⟨⟨z4, q4⟩, f4⟩ := hroom.cells (i * 6 + 4) (by omega)
          obtain ⟨⟨z5, q5⟩, f5⟩ := hroom.cells (i * 6 + 5) (by omega)
          unfold put6 at hpush hput hbp h0 h1
          have HPUSH := Lib.hid hpush
          have HPUT := Lib.hid hput
          have HBP := Lib.hid hbp
          have H0 := Lib.hid h0
          have H1 := Lib.hid h1
          clear hv hb3 hbr hroom hnodes hv3 hlen hpush hput hbp ho h0 h1 c0 c1 c2 c3 c4 c5
          go_wp2
          exact ⟨⟨i + 1, by omega, by go_num, H0.out, H1.out, HPUT.out, HPUSH.out, HBP.out⟩, by simp [intOf]; omega⟩
        · have he : ks.take i = ks := List.take_of_length_le (by omega)
          rw [he] at HN
          obtain ⟨d0, d1, d2, d3, d4, d5, f0, f1, f2, f3, f4, f5⟩ := cellsR HB0.out
          obtain ⟨g0, g1, g2, g3, g4, g5, p0, p1, p2, p3, p4, p5⟩ := cellsR HB1.out
          have hgk := HM.out.lt
          have hb4 : (wr.setCell ⟨w.heap.size, 5, none⟩ (.slice (some ⟨w.heap.size + 1 + 1, 0, none⟩) ks.length ks.length)).heap[w.heap.size + 1]? = some nilBlk := (Below.heap_setCell _ _ _ _ (by simp)).trans HB1.out
          have hp := putR hb4 (.int .u8 k) (.int .u64 sa) (.int .u64 sb) (.int .u64 sc) (.int .u64 sd) (.slice (some ⟨w.heap.size + 1 + 1, 0, none⟩) ks.length ks.length)
          have hbb := putB (hb.setCell (p := ⟨w.heap.size, 5, none⟩) (Nat.le_refl _) (.slice (some ⟨w.heap.size + 1 + 1, 0, none⟩) ks.length ks.length)) (by omega : w.heap.size ≤ w.heap.size + 1) (.int .u8 k) (.int .u64 sa) (.int .u64 sb) (.int .u64 sc) (.int .u64 sd) (.slice (some ⟨w.heap.size + 1 + 1, 0, none⟩) ks.length ks.length)
          have hfar : ∀ b, b ≠ w.heap.size → b ≠ w.heap.size + 1 → (putW (wr.setCell ⟨w.heap.size, 5, none⟩ (.slice (some ⟨w.heap.size + 1 + 1, 0, none⟩) ks.length ks.length)) (w.heap.size + 1) (.int .u8 k) (.int .u64 sa) (.int .u64 sb) (.int .u64 sc) (.int .u64 sd) (.slice (some ⟨w.heap.size + 1 + 1, 0, none⟩) ks.length ks.length)).heap[b]? = wr.heap[b]? := by
            intro b n0 n1
            unfold putW
            rw [Below.heap_setCell _ _ _ _ n1, Below.heap_setCell _ _ _ _ n1, Below.heap_setCell _ _ _ _ n1, Below.heap_setCell _ _ _ _ n1, Below.heap_setCell _ _ _ _ n1, Below.heap_setCell _ _ _ _ n1, Below.heap_setCell _ _ _ _ n0]
          have hsz : (putW (wr.setCell ⟨w.heap.size, 5, none⟩ (.slice (some ⟨w.heap.size + 1 + 1, 0, none⟩) ks.length ks.length)) (w.heap.size + 1) (.int .u8 k) (.int .u64 sa) (.int .u64 sb) (.int .u64 sc) (.int .u64 sd) (.slice (some ⟨w.heap.size + 1 + 1, 0, none⟩) ks.length ks.length)).heap.size = wr.heap.size := by simp [putW, World.setCell]
          have hrow : RowAt (New w.heap.size) (putW (wr.setCell ⟨w.heap.size, 5, none⟩ (.slice (some ⟨w.heap.size + 1 + 1, 0, none⟩) ks.length ks.length)) (w.heap.size + 1) (.int .u8 k) (.int .u64 sa) (.int .u64 sb) (.int .u64 sc) (.int .u64 sd) (.slice (some ⟨w.heap.size + 1 + 1, 0, none⟩) ks.length ks.length)) (some ⟨w.heap.size + 1 + 1, 0, none⟩) ks := by
            refine .inr ⟨_, _, rfl, by rw [hsz]; exact hgk, by unfold New; omega, NodesAt.go (ok := New (w.heap.size + 3)) ⟨by rw [hsz]; exact Nat.le_refl _, fun b _ h => ?_⟩ ks (hfar _ (by omega) (by omega)) HN.out⟩
            unfold New at h
            exact ⟨by unfold New; omega, hfar b (by omega) (by omega)⟩
          unfold putW at hp hbb hrow
          have HP := Lib.hid hp
          have HBB := Lib.hid hbb
          have HROW := Lib.hid hrow
          clear hp hbb hrow hfar hsz hb4
          go_wp2
          exact ret_re HP.out Tryz.results82 rfl rfl ⟨_, rfl, ⟨hk, hs, _, _, rfl, Nat.le_refl _, hmax, HROW.out⟩, HBB.out⟩
theorem cloneR (r : Rx) {ok : Nat → Prop} (v : Value) (w : World) (h : ReAt ok w v r) : Calls Tryz.prog 82 #[v] w (NewPost r w) := clone_any r.size r (Nat.le_refl _) ok v w h
end Go.Proofs.YtfmdcnfniimkoaaGreat
/- rex.chain, Then, Or, Many. -/
namespace Go.Proofs.YtfmdcnfniimkoaaGreat
open Go.RowKit
def foldR (k o : Nat) : List Rx → Rx
  | [] => .node o Ws.nil []
  | [r] => r
  | r :: r' :: rs => .node k Ws.nil [r, foldR k o (r' :: rs)]
theorem foldR_cons (k o : Nat) (r : Rx) {l : List Rx} (h : l ≠ []) : foldR k o (r :: l) = .node k Ws.nil [r, foldR k o l] := by
  cases l with
  | nil => exact absurd rfl h
  | cons a t => rfl
/-- New blocks but two. -/
def Own (n g b : Nat) : Prop := n + 1 ≤ b ∧ b ≠ g
def chainInv (k o : Nat) (l : List Rx) (w : World) (g : Nat) (y : Value) (wr : World) : Prop := ∃ (j : Nat) (v : Value) (x0 x1 x2 x3 x4 : Int) (al : Option Addr) (n cap : Nat), j < l.length ∧ y = .int .i64 ((j : Int) - 1) ∧
  v = .agg #[.int .u8 x0, .int .u64 x1, .int .u64 x2, .int .u64 x3, .int .u64 x4, .slice al n cap] ∧
  wr.heap[g]? = some (.cells #[.int .u8 x0, .int .u64 x1, .int .u64 x2, .int .u64 x3, .int .u64 x4, .slice al n cap] 27) ∧ wr.heap[w.heap.size]? = some nilBlk ∧
  ReAt (Own w.heap.size g) wr v (foldR k o (l.drop j)) ∧ Below w.heap.size w wr
theorem putW_size (w : World) (g : Nat) (y0 y1 y2 y3 y4 y5 : Value) : (putW w g y0 y1 y2 y3 y4 y5).heap.size = w.heap.size := by simp [putW, World.setCell]
theorem putW_other (w : World) (g : Nat) (y0 y1 y2 y3 y4 y5 : Value) {b : Nat} (h : b ≠ g) : (putW w g y0 y1 y2 y3 y4 y5).heap[b]? = w.heap[b]? := by
  unfold putW
  rw [Below.heap_setCell _ _ _ _ h, Below.heap_setCell _ _ _ _ h, Below.heap_setCell _ _ _ _ h, Below.heap_setCell _ _ _ _ h, Below.heap_setCell _ _ _ _ h, Below.heap_setCell _ _ _ _ h]
/-- The world behind a round of chain. -/
def chainW (w' : World) (g k : Nat) (z0 z1 z2 z3 z4 z5 y0 y1 y2 y3 y4 y5 : Value) : World :=
  (putW w' g (.int .u8 k) (.int .u64 0) (.int .u64 0) (.int .u64 0) (.int .u64 0) (.slice (some ⟨w'.heap.size, 0, none⟩) 2 2)).alloc (.cells #[z0, z1, z2, z3, z4, z5, y0, y1, y2, y3, y4, y5] 27)
theorem chain_step {n0 g k : Nat} {w wr w' : World} {z0 z1 z2 z3 z4 z5 y0 y1 y2 y3 y4 y5 : Value} {r t : Rx} (hk : k < 256) (hn0 : n0 + 1 ≤ g)
    (hG : wr.heap[g]? = some (.cells #[y0, y1, y2, y3, y4, y5] 27)) (hN : wr.heap[n0]? = some nilBlk) (hv : ReAt (Own n0 g) wr (.agg #[y0, y1, y2, y3, y4, y5]) t)
    (hv2 : ReAt (New wr.heap.size) w' (.agg #[z0, z1, z2, z3, z4, z5]) r) (hb2 : Below wr.heap.size wr w') (hb : Below n0 w wr) :
    (chainW w' g k z0 z1 z2 z3 z4 z5 y0 y1 y2 y3 y4 y5).heap[g]? = some (.cells #[.int .u8 k, .int .u64 0, .int .u64 0, .int .u64 0, .int .u64 0, .slice (some ⟨w'.heap.size, 0, none⟩) 2 2] 27) ∧
    (chainW w' g k z0 z1 z2 z3 z4 z5 y0 y1 y2 y3 y4 y5).heap[n0]? = some nilBlk ∧
    ReAt (Own n0 g) (chainW w' g k z0 z1 z2 z3 z4 z5 y0 y1 y2 y3 y4 y5) (.agg #[.int .u8 k, .int .u64 0, .int .u64 0, .int .u64 0, .int .u64 0, .slice (some ⟨w'.heap.size, 0, none⟩) 2 2]) (.node k Ws.nil [r, t]) ∧
    Below n0 w (chainW w' g k z0 z1 z2 z3 z4 z5 y0 y1 y2 y3 y4 y5) := by
  have hg : g < wr.heap.size := (Array.getElem?_eq_some_iff.1 hG).1
  have hs := hb2.size
  have hG' : w'.heap[g]? = some (.cells #[y0, y1, y2, y3, y4, y5] 27) := (hb2.block g hg).trans hG
  have hsz := putW_size w' g (.int .u8 k) (.int .u64 0) (.int .u64 0) (.int .u64 0) (.int .u64 0) (.slice (some ⟨w'.heap.size, 0, none⟩) 2 2)
  have hold : ∀ b, b < w'.heap.size → b ≠ g → (chainW w' g k z0 z1 z2 z3 z4 z5 y0 y1 y2 y3 y4 y5).heap[b]? = w'.heap[b]? := fun b h1 h2 =>
    (Below.heap_alloc _ _ _ (by rw [hsz]; exact h1)).trans (putW_other _ _ _ _ _ _ _ _ h2)
  have hsize : w'.heap.size ≤ (chainW w' g k z0 z1 z2 z3 z4 z5 y0 y1 y2 y3 y4 y5).heap.size := by
    unfold chainW; rw [World.size_alloc, hsz]; omega
  refine ⟨(Below.heap_alloc _ _ _ (by rw [hsz]; omega)).trans (putR hG' _ _ _ _ _ _), (hold n0 (by omega) (by omega)).trans ((hb2.block n0 (by omega)).trans hN), ?_, ?_⟩
  · refine ⟨hk, Ws.nil_ok, _, _, rfl, Nat.le_refl _, by simp, row_two (blk_at _ _ hsz.symm) ?_ ?_ ?_⟩
    · unfold Own; omega
    · refine hv2.go ⟨hsize, fun b h1 h2 => ⟨?_, hold b h1 ?_⟩⟩
      · unfold New at h2; unfold Own; omega
      · unfold New at h2; omega
    · refine hv.go ⟨Nat.le_trans hs hsize, fun b h1 h2 => ⟨h2, ?_⟩⟩
      rw [hold b (by omega) h2.2, hb2.block b h1]
  · have h1 : Below n0 w w' := hb.trans (hb2.mono (by omega))
    exact (putB h1 (by omega : n0 ≤ g) _ _ _ _ _ _).alloc (by rw [hsz]; omega) _
set_option maxHeartbeats 4000000 in
theorem chain_any {ok : Nat → Prop} (k o : Nat) (l : List Rx) (al : Option Addr) (cap : Nat) (w : World) (hk : k < 256) (ho : o < 256) (hlen : l.length < 2199023255552) (h : RowAt ok w al l) :
    Calls Tryz.prog 55 #[.int .u8 k, .int .u8 o, .slice al l.length cap] w (NewPost (foldR k o l) w) := by
  have HR := Lib.hid h
  clear h
  by_cases hl : l = []
  · subst hl
    go_enter Tryz.func55, Tryz.ntmps55
    go_wp2
    exact ret_re (blk_new w _) Tryz.results55 rfl rfl ⟨_, rfl, bareAt _ _ o Ws.nil ho Ws.nil_ok, (Below.refl _ w).alloc (Nat.le_refl _) _⟩
  · have hpos : 0 < l.length := List.length_pos_iff.2 hl
    have e0 : ((l.length : Int) == 0) = false := by simp; omega
    obtain ⟨b, off, hab, hblt, hnode⟩ := HR.out.kid (i := l.length - 1) (by omega)
    subst hab
    have hb0 := (Below.refl _ w).alloc (Nat.le_refl _) nilBlk
    have hkid := NodeAt.below hb0 _ hblt hnode
    have hdrop : l.drop (l.length - 1) = [l[l.length - 1]'(by omega)] := by
      rw [List.drop_eq_getElem_cons (by omega), List.drop_of_length_le (by omega)]
    have HD := Lib.hid hdrop
    clear hdrop hl
    generalize l[l.length - 1]'(by omega) = kid at *
    obtain ⟨k', ⟨ta, tb, tc, td⟩, ks'⟩ := kid
    obtain ⟨al', cap', ⟨c0, c1, c2, c3, c4, c5⟩, hre⟩ := hkid.read
    simp only at c0 c1 c2 c3 c4 c5
    unfold nilBlk at c0 c1 c2 c3 c4 c5
    have HRE := Lib.hid hre
    clear hkid hnode hre
    have q1 : (l.length : Int) - 1 = ((l.length - 1 : Nat) : Int) := by omega
    have q2 : ((l.length - 1 : Nat) : Int) < (l.length : Int) := by omega
    go_enter Tryz.func55, Tryz.ntmps55
    go_wp2_with fail
    refine (cloneR _ _ _ HRE.out).mono ?_
    rintro e w1 ⟨v, rfl, hv, hb1⟩
    obtain ⟨x0, x1, x2, x3, x4, bl, n', cp, rfl⟩ := cells_re hv
    have hsz1 : w.heap.size + 1 ≤ w1.heap.size := by have := hb1.size; simpa using this
    have hbw : Below w.heap.size w w1 := hb0.trans (hb1.mono (by simp))
    have hnb : w1.heap[w.heap.size]? = some nilBlk := (hb1.block _ (by simp)).trans (blk_new w _)
    have HV := Lib.hid hv
    clear hv hb1 c0 c1 c2 c3 c4 c5 HRE hb0
    have HBW := Lib.hid hbw
    have HNB := Lib.hid hnb
    clear hbw hnb
    go_wp2
    go_loopw [9] (fun y wr => chainInv k o l w w1.heap.size y wr) (fun y _ => (intOf y + 1).toNat)
    case atStart =>
      refine ⟨l.length - 1, _, x0, x1, x2, x3, x4, bl, n', cp, by omega, ?_, rfl, blk_new w1 _, (Below.heap_alloc _ _ _ (by omega)).trans HNB.out, ?_, HBW.out.alloc (by omega) _⟩
      · first | rfl | (congr 1; omega)
      · rw [HD.out]
        refine HV.out.go ⟨by simp, fun b hb h => ⟨?_, Below.heap_alloc _ _ _ hb⟩⟩
        unfold New at h; unfold Own
        simp at h; omega
    case round =>
      obtain ⟨j, v, y0, y1, y2, y3, y4, yl, yn, yc, hj, rfl, rfl, hg, hn, hv, hb⟩ := hrel
      have HG := Lib.hid hg
      have HN := Lib.hid hn
      have HV' := Lib.hid hv
      clear hg hn hv HV HBW HNB HD
      have hgs := (Array.getElem?_eq_some_iff.1 HG.out).1
      by_cases hj0 : j = 0
      · subst hj0
        obtain ⟨d0, e1, e2, e3, e4, e5, f0, f1, f2, f3, f4, f5⟩ := cellsR HG.out
        obtain ⟨g0, g1, g2, g3, g4, g5, p0, p1, p2, p3, p4, p5⟩ := cellsR HN.out
        have hp := putR HN.out (.int .u8 y0) (.int .u64 y1) (.int .u64 y2) (.int .u64 y3) (.int .u64 y4) (.slice yl yn yc)
        have hbb := putB hb (Nat.le_refl w.heap.size) (.int .u8 y0) (.int .u64 y1) (.int .u64 y2) (.int .u64 y3) (.int .u64 y4) (.slice yl yn yc)
        have hre : ReAt (New w.heap.size) (putW wr w.heap.size (.int .u8 y0) (.int .u64 y1) (.int .u64 y2) (.int .u64 y3) (.int .u64 y4) (.slice yl yn yc)) (.agg #[.int .u8 y0, .int .u64 y1, .int .u64 y2, .int .u64 y3, .int .u64 y4, .slice yl yn yc]) (foldR k o l) := by
          have h := HV'.out
          rw [List.drop_zero] at h
          refine h.go ⟨by rw [putW_size]; exact Nat.le_refl _, fun b _ hb => ?_⟩
          unfold Own at hb
          exact ⟨by unfold New; omega, putW_other _ _ _ _ _ _ _ _ (by omega)⟩
        unfold putW at hp hbb hre
        have HP := Lib.hid hp
        have HBB := Lib.hid hbb
        have HRE := Lib.hid hre
        clear hp hbb hre
        go_wp2
        exact ret_re HP.out Tryz.results55 rfl rfl ⟨_, rfl, HRE.out, HBB.out⟩
      · have d1 : decide (0 ≤ (j : Int) - 1) = true := by simp; omega
        obtain ⟨b2, off2, hab2, hblt2, hnode2⟩ := HR.out.kid (i := j - 1) (by omega)
        simp at hab2
        obtain ⟨rfl, rfl⟩ := hab2
        have hkid2 := NodeAt.below hb _ hblt2 hnode2
        have hdrop : l.drop (j - 1) = l[j - 1]'(by omega) :: l.drop j := by
          rw [List.drop_eq_getElem_cons (by omega)]; congr 2; omega
        have hne : l.drop j ≠ [] := by simp; omega
        have hfo := foldR_cons k o (l[j - 1]'(by omega)) hne
        rw [← hdrop] at hfo
        have HFO := Lib.hid hfo
        clear hdrop hne hfo hnode2
        generalize l[j - 1]'(by omega) = kid2 at *
        obtain ⟨k2, ⟨sa, sb, sc, sd⟩, ks2⟩ := kid2
        obtain ⟨al2, cap2, ⟨c0, c1, c2, c3, c4, c5⟩, hre⟩ := hkid2.read
        simp only at c0 c1 c2 c3 c4 c5
        have HRE := Lib.hid hre
        clear hkid2 hre
        have r1 : (j : Int) - 1 = ((j - 1 : Nat) : Int) := by omega
        have r2 : ((j - 1 : Nat) : Int) < (l.length : Int) := by omega
        obtain ⟨d0, e1, e2, e3, e4, e5, f0, f1, f2, f3, f4, f5⟩ := cellsR HG.out
        go_wp2_with fail
        have KC := Lib.hid fun W (h : Below wr.heap.size wr W) => cloneR (.node k2 ⟨sa, sb, sc, sd⟩ ks2) _ W (HRE.out.below h)
        go_region_with (go_at_call 82; refine (KC.out _ (Below.refl _ _).drew).mono ?_; (rintro e w' ⟨v2, rfl, hv2, hb2⟩); obtain ⟨z0, z1, z2, z3, z4, zl, zn, zc, rfl⟩ := cells_re hv2; obtain ⟨d0', e1', e2', e3', e4', e5', f0', f1', f2', f3', f4', f5'⟩ := cellsR ((hb2.block _ hgs).trans HG.out); have hgs' : w1.heap.size < w'.heap.size := Nat.lt_of_lt_of_le hgs hb2.size)
        all_goals
          obtain ⟨s1, s2, s3, s4⟩ := chain_step (k := k) hk hsz1 HG.out HN.out HV'.out hv2 ((Below.refl _ wr).drew.trans hb2) hb
          have HS1 := Lib.hid s1
          have HS2 := Lib.hid s2
          have HS3 := Lib.hid s3
          have HS4 := Lib.hid s4
          unfold chainW putW at HS1 HS2 HS3 HS4
          clear s1 s2 s3 s4
          go_wp2
          refine ⟨⟨j - 1, _, k, 0, 0, 0, 0, _, 2, 2, by omega, ?_, rfl, HS1.out, HS2.out, ?_, HS4.out⟩, ?_⟩
          · first | rfl | (congr 1; omega)
          · rw [HFO.out]; exact HS3.out
          · simp [intOf]; omega
/-- A callee's expression comes back through one's own result block. -/
theorem pass_re {w w1 : World} {r : Rx} {x0 x1 x2 x3 x4 x5 : Value} (hv : ReAt (New (w.alloc nilBlk).heap.size) w1 (.agg #[x0, x1, x2, x3, x4, x5]) r) (hb1 : Below (w.alloc nilBlk).heap.size (w.alloc nilBlk) w1) :
    w1.heap[w.heap.size]? = some nilBlk ∧ (putW w1 w.heap.size x0 x1 x2 x3 x4 x5).heap[w.heap.size]? = some (.cells #[x0, x1, x2, x3, x4, x5] 27) ∧
    ReAt (New w.heap.size) (putW w1 w.heap.size x0 x1 x2 x3 x4 x5) (.agg #[x0, x1, x2, x3, x4, x5]) r ∧ Below w.heap.size w (putW w1 w.heap.size x0 x1 x2 x3 x4 x5) := by
  have hn : w1.heap[w.heap.size]? = some nilBlk := (hb1.block _ (by simp)).trans (blk_new w _)
  refine ⟨hn, putR hn _ _ _ _ _ _, ?_, putB (((Below.refl _ w).alloc (Nat.le_refl _) _).trans (hb1.mono (by simp))) (Nat.le_refl _) _ _ _ _ _ _⟩
  refine hv.go ⟨by rw [putW_size]; exact Nat.le_refl _, fun b _ h => ?_⟩
  unfold New at h
  simp at h
  exact ⟨by unfold New; omega, putW_other _ _ _ _ _ _ _ _ (by omega)⟩
theorem then_any {ok : Nat → Prop} (l : List Rx) (al : Option Addr) (cap : Nat) (w : World) (hlen : l.length < 2199023255552) (h : RowAt ok w al l) :
    Calls Tryz.prog 29 #[.slice al l.length cap] w (NewPost (foldR 4 2 l) w) := by
  have K := Lib.hid (chain_any 4 2 l al cap (w.alloc nilBlk) (by decide) (by decide) hlen (h.below ((Below.refl _ w).alloc (Nat.le_refl _) _)))
  generalize foldR 4 2 l = r at *
  go_enter Tryz.func29, Tryz.ntmps29
  go_wp2_with fail
  refine K.out.mono ?_
  rintro e w1 ⟨v, rfl, hv, hb1⟩
  obtain ⟨x0, x1, x2, x3, x4, bl, n', cp, rfl⟩ := cells_re hv
  obtain ⟨hn, h1, h2, h3⟩ := pass_re hv hb1
  obtain ⟨g0, g1, g2, g3, g4, g5, p0, p1, p2, p3, p4, p5⟩ := cellsR hn
  unfold putW at h1 h2 h3
  have H1 := Lib.hid h1
  have H2 := Lib.hid h2
  have H3 := Lib.hid h3
  clear hv hb1 hn h1 h2 h3
  go_wp2
  exact ret_re H1.out Tryz.results29 rfl rfl ⟨_, rfl, H2.out, H3.out⟩
theorem or_any {ok : Nat → Prop} (l : List Rx) (al : Option Addr) (cap : Nat) (w : World) (hlen : l.length < 2199023255552) (h : RowAt ok w al l) :
    Calls Tryz.prog 71 #[.slice al l.length cap] w (NewPost (foldR 5 1 l) w) := by
  have K := Lib.hid (chain_any 5 1 l al cap (w.alloc nilBlk) (by decide) (by decide) hlen (h.below ((Below.refl _ w).alloc (Nat.le_refl _) _)))
  generalize foldR 5 1 l = r at *
  go_enter Tryz.func71, Tryz.ntmps71
  go_wp2_with fail
  refine K.out.mono ?_
  rintro e w1 ⟨v, rfl, hv, hb1⟩
  obtain ⟨x0, x1, x2, x3, x4, bl, n', cp, rfl⟩ := cells_re hv
  obtain ⟨hn, h1, h2, h3⟩ := pass_re hv hb1
  obtain ⟨g0, g1, g2, g3, g4, g5, p0, p1, p2, p3, p4, p5⟩ := cellsR hn
  unfold putW at h1 h2 h3
  have H1 := Lib.hid h1
  have H2 := Lib.hid h2
  have H3 := Lib.hid h3
  clear hv hb1 hn h1 h2 h3
  go_wp2
  exact ret_re H1.out Tryz.results71 rfl rfl ⟨_, rfl, H2.out, H3.out⟩
end Go.Proofs.YtfmdcnfniimkoaaGreat
/- Normal forms of expressions that may be; no program. -/
namespace Go.Proofs.YtfmdcnfniimkoaaGreat
def Ex.isEmp : Ex → Bool
  | .empty => true
  | _ => false
def Ex.isEps : Ex → Bool
  | .eps => true
  | _ => false
def Ex.isCls : Ex → Bool
  | .cls _ => true
  | _ => false
theorem isEmp_iff {e : Ex} : e.isEmp = true ↔ e = .empty := by cases e <;> simp [Ex.isEmp]
theorem isEps_iff {e : Ex} : e.isEps = true ↔ e = .eps := by cases e <;> simp [Ex.isEps]
/-- One of some. -/
def foldA : List Ex → Ex
  | [] => .empty
  | [r] => r
  | r :: r' :: rs => .alt r (foldA (r' :: rs))
theorem foldA_rx : ∀ l : List Ex, (foldA l).rx = foldR 5 1 (l.map Ex.rx)
  | [] => rfl
  | [_] => rfl
  | r :: r' :: rs => by
    have ih := foldA_rx (r' :: rs)
    simp only [foldA, Ex.rx, List.map_cons, foldR] at ih ⊢
    rw [ih]
def insE (r : Ex) : List Ex → List Ex
  | [] => [r]
  | o :: l => if ordR r.rx o.rx < 0 then r :: o :: l else o :: insE r l
theorem insE_map (r : Ex) : ∀ l : List Ex, (insE r l).map Ex.rx = insR r.rx (l.map Ex.rx)
  | [] => rfl
  | o :: l => by
    simp only [insE, List.map_cons, insR]
    split
    · rfl
    · simp only [List.map_cons, insE_map r l]
def sortE (l : List Ex) : List Ex := l.foldl (fun m r => insE r m) []
theorem foldIns_map : ∀ (l m : List Ex), (l.foldl (fun m r => insE r m) m).map Ex.rx = (l.map Ex.rx).foldl (fun m r => insR r m) (m.map Ex.rx)
  | [], _ => rfl
  | r :: l, m => by
    simp only [List.foldl_cons, List.map_cons]
    rw [foldIns_map l (insE r m), insE_map]
theorem sortE_map (l : List Ex) : (sortE l).map Ex.rx = sortR (l.map Ex.rx) := foldIns_map l []
def onceFromE : List Ex → List Ex → List Ex
  | out, [] => out
  | out, r :: l => if (out.map Ex.rx).any (fun o => sameR o r.rx) = true then onceFromE out l else onceFromE (out ++ [r]) l
theorem onceFromE_map : ∀ (l out : List Ex), (onceFromE out l).map Ex.rx = onceFrom (out.map Ex.rx) (l.map Ex.rx)
  | [], _ => rfl
  | r :: l, out => by
    simp only [onceFromE, List.map_cons, onceFrom]
    split
    · exact onceFromE_map l out
    · rw [onceFromE_map l (out ++ [r])]; simp
/-- In order, each once. -/
def canE (l : List Ex) : List Ex := onceFromE [] (sortE l)
theorem canE_map (l : List Ex) : (canE l).map Ex.rx = onceR (sortR (l.map Ex.rx)) := by
  unfold canE onceR
  rw [onceFromE_map, sortE_map]
  rfl
theorem mem_rx {x : Ex} {l : List Ex} : x.rx ∈ l.map Ex.rx ↔ x ∈ l := by
  constructor
  · intro h
    obtain ⟨y, hy, e⟩ := List.mem_map.1 h
    rw [← Ex.rx_inj _ _ e]
    exact hy
  · exact fun h => List.mem_map.2 ⟨x, h, rfl⟩
theorem canE_mem (l : List Ex) (x : Ex) : x ∈ canE l ↔ x ∈ l := by
  rw [← mem_rx, canE_map, onceR_mem, (sortR_perm _).mem_iff, mem_rx]
theorem nodup_rx {l : List Ex} (h : (l.map Ex.rx).Nodup) : l.Nodup := by
  unfold List.Nodup at *
  rw [List.pairwise_map] at h
  exact h.imp fun h e => h (by rw [e])
theorem rx_nodup {l : List Ex} (h : l.Nodup) : (l.map Ex.rx).Nodup := by
  unfold List.Nodup at *
  rw [List.pairwise_map]
  exact h.imp fun h e => h (Ex.rx_inj _ _ e)
theorem canE_nodup (l : List Ex) : (canE l).Nodup := nodup_rx (by rw [canE_map]; exact onceR_nodup _)
theorem canE_order (l : List Ex) : InOrder ((canE l).map Ex.rx) := by rw [canE_map]; exact onceR_order (sortR_order _)
theorem map_rx_inj : ∀ {l m : List Ex}, l.map Ex.rx = m.map Ex.rx → l = m
  | [], [], _ => rfl
  | [], _ :: _, h => by simp at h
  | _ :: _, [], h => by simp at h
  | a :: l, b :: m, h => by
    simp only [List.map_cons, List.cons.injEq] at h
    rw [Ex.rx_inj _ _ h.1, map_rx_inj h.2]
/-- Rows in order, each once, that have the same ones are the same. -/
theorem canE_eq {l m : List Ex} (h1 : InOrder (l.map Ex.rx)) (h2 : l.Nodup) (h3 : ∀ x, x ∈ m ↔ x ∈ l) : canE m = l := by
  apply map_rx_inj
  refine inOrder_unique ?_ (canE_order m) h1
  refine List.Perm.map _ ?_
  rw [List.perm_ext_iff_of_nodup (canE_nodup m) h2]
  intro x
  rw [canE_mem, h3]
/-- What an expression stands for in an Alt. -/
def flatE : Ex → List Ex
  | .empty => []
  | .alt a b => flatE a ++ flatE b
  | .eps => [.eps]
  | .cls s => [.cls s]
  | .seq a b => [.seq a b]
  | .star a => [.star a]
def clsS : Ex → Option Ws
  | .cls s => some s
  | _ => none
/-- All their Classes' bytes. -/
def setE (l : List Ex) : Ws := (l.filterMap clsS).foldl Ws.join Ws.nil
def restE (l : List Ex) : List Ex := l.filter fun x => !x.isCls
def gathE (l : List Ex) : List Ex := if setE l = Ws.nil then restE l else restE l ++ [.cls (setE l)]
def altE (l : List Ex) : Ex := foldA (canE (gathE (l.flatMap flatE)))
def mkS (a b : Ex) : Ex := if b.isEmp = true then .empty else if b.isEps = true then a else .seq a b
def seqE : Ex → Ex → Ex
  | .empty, _ => .empty
  | .eps, b => b
  | .cls s, b => mkS (.cls s) b
  | .alt x y, b => mkS (.alt x y) b
  | .star x, b => mkS (.star x) b
  | .seq c d, b => if b.isEmp = true then .empty else if b.isEps = true then .seq c d else seqE c (seqE d b)
def starE : Ex → Ex
  | .empty => .eps
  | .eps => .eps
  | .star a => .star a
  | .cls s => .star (.cls s)
  | .seq a b => .star (.seq a b)
  | .alt a b => .star (.alt a b)
/-- The normal form. -/
def nfE : Ex → Ex
  | .empty => .empty
  | .eps => .eps
  | .cls s => .cls s
  | .seq a b => seqE (nfE a) (nfE b)
  | .alt a b => altE [nfE a, nfE b]
  | .star a => starE (nfE a)
end Go.Proofs.YtfmdcnfniimkoaaGreat
/- A normal form is its own one; no program. -/
namespace Go.Proofs.YtfmdcnfniimkoaaGreat
/-- What may stand in an Alt's row. -/
def Item (x : Ex) : Prop := x.isEmp = false ∧ x.isAlt = false
def AltOk (l : List Ex) : Prop := (∀ x ∈ l, Item x) ∧ InOrder (l.map Ex.rx) ∧ l.Nodup ∧ ∀ s t, .cls s ∈ l → .cls t ∈ l → s = t
/-- Made with care, through and through. -/
inductive NF : Ex → Prop
  | empty : NF .empty
  | eps : NF .eps
  | cls (s : Ws) : NF (.cls s)
  | seq (a b : Ex) : NF a → NF b → a.isEmp = false → a.isEps = false → a.isSeq = false → b.isEmp = false → b.isEps = false → NF (.seq a b)
  | star (a : Ex) : NF a → a.isEmp = false → a.isEps = false → a.isStar = false → NF (.star a)
  | alts (x y : Ex) (l : List Ex) : (∀ z ∈ x :: y :: l, NF z) → AltOk (x :: y :: l) → NF (foldA (x :: y :: l))
theorem flat_item {x : Ex} (h : Item x) : flatE x = [x] := by
  cases x <;> simp_all [Item, Ex.isEmp, Ex.isAlt, flatE]
theorem flat_fold : ∀ (l : List Ex), (∀ x ∈ l, Item x) → flatE (foldA l) = l
  | [], _ => rfl
  | [x], h => flat_item (h x (by simp))
  | x :: y :: l, h => by
    show flatE x ++ flatE (foldA (y :: l)) = _
    rw [flat_item (h x (by simp)), flat_fold (y :: l) (fun z hz => h z (List.mem_cons_of_mem _ hz))]
    rfl
theorem AltOk.tail {x : Ex} {l : List Ex} (h : AltOk (x :: l)) : AltOk l :=
  ⟨fun z hz => h.1 z (List.mem_cons_of_mem _ hz), (List.pairwise_cons.1 h.2.1).2, (List.nodup_cons.1 h.2.2.1).2, fun s t hs ht => h.2.2.2 s t (List.mem_cons_of_mem _ hs) (List.mem_cons_of_mem _ ht)⟩
theorem fold_nf : ∀ (l : List Ex), (∀ z ∈ l, NF z) → AltOk l → NF (foldA l)
  | [], _, _ => .empty
  | [x], h, _ => h x (by simp)
  | x :: y :: l, h, ho => .alts x y l h ho
theorem foldA_alt (x y : Ex) (l : List Ex) : (foldA (x :: y :: l)).isAlt = true := rfl
theorem altOk_one {x : Ex} (h : Item x) : AltOk [x] := by
  refine ⟨fun z hz => by simp at hz; subst hz; exact h, by simp [InOrder], by simp, fun s t hs ht => ?_⟩
  simp at hs ht
  rw [← hs] at ht
  injection ht with ht
  exact ht.symm
/-- What a normal form stands for in an Alt. -/
theorem NF.row {x : Ex} (h : NF x) : (∀ z ∈ flatE x, NF z) ∧ AltOk (flatE x) ∧ foldA (flatE x) = x := by
  cases h with
  | empty => exact ⟨fun z hz => by simp [flatE] at hz, ⟨fun z hz => by simp [flatE] at hz, by simp [InOrder, flatE], by simp [flatE], fun s t hs => by simp [flatE] at hs⟩, rfl⟩
  | eps => exact ⟨fun z hz => by simp [flatE] at hz; subst hz; exact .eps, altOk_one ⟨rfl, rfl⟩, rfl⟩
  | cls s => exact ⟨fun z hz => by simp [flatE] at hz; subst hz; exact .cls s, altOk_one ⟨rfl, rfl⟩, rfl⟩
  | seq a b h1 h2 h3 h4 h5 h6 h7 => exact ⟨fun z hz => by simp [flatE] at hz; subst hz; exact .seq a b h1 h2 h3 h4 h5 h6 h7, altOk_one ⟨rfl, rfl⟩, rfl⟩
  | star a h1 h2 h3 h4 => exact ⟨fun z hz => by simp [flatE] at hz; subst hz; exact .star a h1 h2 h3 h4, altOk_one ⟨rfl, rfl⟩, rfl⟩
  | alts x y l h1 h2 =>
    rw [flat_fold _ h2.1]
    exact ⟨h1, h2, rfl⟩
theorem mem_rest {l : List Ex} {x : Ex} : x ∈ restE l ↔ x ∈ l ∧ x.isCls = false := by simp [restE]
theorem cls_mem {l : List Ex} {s : Ws} : s ∈ l.filterMap clsS ↔ .cls s ∈ l := by
  rw [List.mem_filterMap]
  constructor
  · rintro ⟨x, hx, e⟩
    cases x <;> simp [clsS] at e
    subst e
    exact hx
  · exact fun h => ⟨_, h, rfl⟩
theorem foldJ_ok : ∀ (l : List Ws) (z : Ws), z.Ok → (∀ s ∈ l, s.Ok) → (l.foldl Ws.join z).Ok
  | [], z, hz, _ => hz
  | s :: l, z, hz, h => foldJ_ok l _ (Ws.join_ok hz (h s (by simp))) (fun t ht => h t (List.mem_cons_of_mem _ ht))
theorem foldJ_has : ∀ (l : List Ws) (z : Ws) (n : Nat), (l.foldl Ws.join z).has n = (z.has n || l.any fun s => s.has n)
  | [], z, n => by simp
  | s :: l, z, n => by
    simp only [List.foldl_cons, List.any_cons]
    rw [foldJ_has l, Ws.has_join, Bool.or_assoc]
/-- All Classes are this one. -/
theorem setE_one {l : List Ex} {s : Ws} (hs : s.Ok) (h1 : .cls s ∈ l) (h2 : ∀ t, .cls t ∈ l → t = s) : setE l = s := by
  unfold setE
  have hok : ∀ t ∈ l.filterMap clsS, t.Ok := fun t ht => by rw [h2 t (cls_mem.1 ht)]; exact hs
  refine Ws.has_ext (foldJ_ok _ _ Ws.nil_ok hok) hs fun n _ => ?_
  rw [foldJ_has, Ws.has_nil, Bool.false_or]
  cases hh : s.has n with
  | true => exact List.any_eq_true.2 ⟨s, cls_mem.2 h1, hh⟩
  | false =>
    rw [List.any_eq_false]
    intro t ht
    rw [h2 t (cls_mem.1 ht), hh]
    simp
theorem setE_none {l : List Ex} (h : ∀ t, .cls t ∉ l) : setE l = Ws.nil := by
  unfold setE
  have : l.filterMap clsS = [] := by
    rw [List.eq_nil_iff_forall_not_mem]
    exact fun t ht => h t (cls_mem.1 ht)
  rw [this]
  rfl
def Ex.Wfs (l : List Ex) : Prop := ∀ x ∈ l, x.Wf
/-- A row that is in order, with one Class at most, is gathered and put in order as it was. -/
theorem gath_fix {l : List Ex} (h : AltOk l) (hw : Ex.Wfs l) : canE (gathE l) = l := by
  refine canE_eq h.2.1 h.2.2.1 fun x => ?_
  unfold gathE
  by_cases hc : ∃ s, .cls s ∈ l
  · obtain ⟨s, hs⟩ := hc
    have hws : s.Ok ∧ s ≠ Ws.nil := hw _ hs
    rw [setE_one hws.1 hs (fun t ht => h.2.2.2 t s ht hs), if_neg hws.2, List.mem_append, mem_rest]
    constructor
    · rintro (hx | hx)
      · exact hx.1
      · simp at hx; subst hx; exact hs
    · intro hx
      cases hq : x.isCls with
      | false => exact .inl ⟨hx, rfl⟩
      | true =>
        cases x <;> simp [Ex.isCls] at hq
        rename_i t
        rw [h.2.2.2 t s hx hs]
        exact .inr (by simp)
  · rw [setE_none (fun t ht => hc ⟨t, ht⟩), if_pos rfl, mem_rest]
    constructor
    · exact fun hx => hx.1
    · intro hx
      refine ⟨hx, ?_⟩
      cases x <;> simp [Ex.isCls]
      exact hc ⟨_, hx⟩
theorem alt_fix {l : List Ex} (h : AltOk l) (hw : Ex.Wfs l) : foldA (canE (gathE l)) = foldA l := by rw [gath_fix h hw]
/-- What is gathered and put in order. -/
theorem gath_ok {l : List Ex} (h : ∀ x ∈ l, Item x) : AltOk (canE (gathE l)) := by
  have hm : ∀ x, x ∈ gathE l → (x ∈ l ∧ x.isCls = false) ∨ x = .cls (setE l) := by
    intro x hx
    unfold gathE at hx
    split at hx
    · exact .inl (mem_rest.1 hx)
    · rcases List.mem_append.1 hx with hx | hx
      · exact .inl (mem_rest.1 hx)
      · simp at hx; exact .inr hx
  refine ⟨fun x hx => ?_, canE_order _, canE_nodup _, fun s t hs ht => ?_⟩
  · rcases hm x ((canE_mem _ _).1 hx) with hx | rfl
    · exact h x hx.1
    · exact ⟨rfl, rfl⟩
  · rcases hm _ ((canE_mem _ _).1 hs) with hs | hs
    · simp [Ex.isCls] at hs
    · rcases hm _ ((canE_mem _ _).1 ht) with ht | ht
      · simp [Ex.isCls] at ht
      · injection hs with hs
        injection ht with ht
        rw [hs, ht]
theorem gath_nf {l : List Ex} (h : ∀ x ∈ l, NF x) : ∀ x ∈ canE (gathE l), NF x := by
  intro x hx
  have hx := (canE_mem _ _).1 hx
  unfold gathE at hx
  split at hx
  · exact h x (mem_rest.1 hx).1
  · rcases List.mem_append.1 hx with hx | hx
    · exact h x (mem_rest.1 hx).1
    · simp at hx; subst hx; exact .cls _
theorem alt_nf {l : List Ex} (h : ∀ x ∈ l, NF x) : NF (altE l) := by
  have h1 : ∀ x ∈ l.flatMap flatE, Item x ∧ NF x := by
    intro x hx
    obtain ⟨y, hy, hx⟩ := List.mem_flatMap.1 hx
    have hr := (h y hy).row
    exact ⟨hr.2.1.1 x hx, hr.1 x hx⟩
  exact fold_nf _ (gath_nf fun x hx => (h1 x hx).2) (gath_ok fun x hx => (h1 x hx).1)
theorem mkS_nf {a b : Ex} (ha : NF a) (hb : NF b) (h1 : a.isEmp = false) (h2 : a.isEps = false) (h3 : a.isSeq = false) : NF (mkS a b) := by
  unfold mkS
  split
  · exact .empty
  · split
    · exact ha
    · rename_i h4 h5
      exact .seq a b ha hb h1 h2 h3 (by simpa using h4) (by simpa using h5)
theorem mkS_seq {a b : Ex} (h1 : b.isEmp = false) (h2 : b.isEps = false) : mkS a b = .seq a b := by
  unfold mkS
  rw [h1, h2]
  rfl
/-- One that is no Seq, Empty or Eps, ahead of one that is not Empty or Eps. -/
theorem seqE_plain {a b : Ex} (h1 : a.isEmp = false) (h2 : a.isEps = false) (h3 : a.isSeq = false) (h4 : b.isEmp = false) (h5 : b.isEps = false) : seqE a b = .seq a b := by
  cases a <;> simp_all [Ex.isEmp, Ex.isEps, Ex.isSeq, seqE, mkS]
theorem seqE_some : ∀ {a b : Ex}, NF a → a.isEmp = false → a.isEps = false → b.isEmp = false → b.isEps = false → (seqE a b).isEmp = false ∧ (seqE a b).isEps = false := by
  intro a b ha h1 h2 h4 h5
  cases ha with
  | empty => simp [Ex.isEmp] at h1
  | eps => simp [Ex.isEps] at h2
  | cls s => rw [seqE_plain rfl rfl rfl h4 h5]; exact ⟨rfl, rfl⟩
  | star a _ _ _ _ => rw [seqE_plain rfl rfl rfl h4 h5]; exact ⟨rfl, rfl⟩
  | alts x y l _ _ => rw [seqE_plain rfl rfl rfl h4 h5]; exact ⟨rfl, rfl⟩
  | seq c d hc hd c1 c2 c3 d1 d2 =>
    have ih := seqE_some (b := b) hd d1 d2 h4 h5
    have e : seqE (.seq c d) b = seqE c (seqE d b) := by simp only [seqE, h4, h5]; rfl
    rw [e, seqE_plain c1 c2 c3 ih.1 ih.2]
    exact ⟨rfl, rfl⟩
theorem seq_nf : ∀ {a b : Ex}, NF a → NF b → NF (seqE a b) := by
  intro a b ha hb
  cases ha with
  | empty => exact .empty
  | eps => exact hb
  | cls s => exact mkS_nf (.cls s) hb rfl rfl rfl
  | star a h1 h2 h3 h4 => exact mkS_nf (.star a h1 h2 h3 h4) hb rfl rfl rfl
  | alts x y l h1 h2 => exact mkS_nf (.alts x y l h1 h2) hb rfl rfl rfl
  | seq c d hc hd c1 c2 c3 d1 d2 =>
    cases h4 : b.isEmp with
    | true =>
      have e : seqE (.seq c d) b = .empty := by simp only [seqE, h4]; rfl
      rw [e]; exact .empty
    | false =>
      cases h5 : b.isEps with
      | true =>
        have e : seqE (.seq c d) b = .seq c d := by simp only [seqE, h4, h5]; rfl
        rw [e]; exact .seq c d hc hd c1 c2 c3 d1 d2
      | false =>
        have e : seqE (.seq c d) b = seqE c (seqE d b) := by simp only [seqE, h4, h5]; rfl
        have h6 := seqE_some (b := b) hd d1 d2 h4 h5
        rw [e, seqE_plain c1 c2 c3 h6.1 h6.2]
        exact .seq c _ hc (seq_nf hd hb) c1 c2 c3 h6.1 h6.2
theorem star_nf {a : Ex} (h : NF a) : NF (starE a) := by
  cases h with
  | empty => exact .eps
  | eps => exact .eps
  | cls s => exact .star _ (.cls s) rfl rfl rfl
  | star a h1 h2 h3 h4 => exact .star a h1 h2 h3 h4
  | seq a b h1 h2 h3 h4 h5 h6 h7 => exact .star _ (.seq a b h1 h2 h3 h4 h5 h6 h7) rfl rfl rfl
  | alts x y l h1 h2 => exact .star _ (.alts x y l h1 h2) rfl rfl rfl
theorem nf_nf : ∀ e : Ex, NF (nfE e)
  | .empty => .empty
  | .eps => .eps
  | .cls s => .cls s
  | .seq a b => seq_nf (nf_nf a) (nf_nf b)
  | .alt a b => alt_nf fun x hx => by
    simp at hx
    rcases hx with rfl | rfl
    · exact nf_nf a
    · exact nf_nf b
  | .star a => star_nf (nf_nf a)
theorem fold_wf : ∀ (l : List Ex), Ex.Wfs l ↔ (foldA l).Wf
  | [] => by simp [Ex.Wfs, foldA, Ex.Wf]
  | [x] => by simp [Ex.Wfs, foldA]
  | x :: y :: l => by
    have ih := fold_wf (y :: l)
    show _ ↔ x.Wf ∧ (foldA (y :: l)).Wf
    rw [← ih]
    simp [Ex.Wfs]
theorem nf_fold : ∀ (l : List Ex), (∀ z ∈ l, nfE z = z) → AltOk l → Ex.Wfs l → nfE (foldA l) = foldA l
  | [], _, _, _ => rfl
  | [x], h, _, _ => h x (by simp)
  | x :: y :: l, h, ho, hw => by
    show altE [nfE x, nfE (foldA (y :: l))] = _
    rw [h x (by simp), nf_fold (y :: l) (fun z hz => h z (List.mem_cons_of_mem _ hz)) ho.tail (fun z hz => hw z (List.mem_cons_of_mem _ hz))]
    unfold altE
    have e : [x, foldA (y :: l)].flatMap flatE = x :: y :: l := by
      simp only [List.flatMap_cons, List.flatMap_nil, List.append_nil]
      rw [flat_item (ho.1 x (by simp)), flat_fold (y :: l) (fun z hz => ho.1 z (List.mem_cons_of_mem _ hz))]
      rfl
    rw [e, alt_fix ho hw]
theorem nf_fix {e : Ex} (h : NF e) : e.Wf → nfE e = e := by
  induction h with
  | empty => exact fun _ => rfl
  | eps => exact fun _ => rfl
  | cls s => exact fun _ => rfl
  | seq a b ha hb h1 h2 h3 h4 h5 iha ihb =>
    intro hw
    show seqE (nfE a) (nfE b) = _
    rw [iha hw.1, ihb hw.2, seqE_plain h1 h2 h3 h4 h5]
  | star a ha h1 h2 h3 ih =>
    intro hw
    show starE (nfE a) = _
    rw [ih hw]
    cases a <;> simp_all [Ex.isEmp, Ex.isEps, Ex.isStar, starE]
  | alts x y l hn ho ih =>
    intro hw
    have hws := (fold_wf _).2 hw
    exact nf_fold _ (fun z hz => ih z hz (hws z hz)) ho hws
end Go.Proofs.YtfmdcnfniimkoaaGreat
/- A normal form has no more nodes, fits the empty text, fits some text, begins as the expression does; no program. -/
namespace Go.Proofs.YtfmdcnfniimkoaaGreat
theorem flat_wf : ∀ (e : Ex), e.Wf → Ex.Wfs (flatE e)
  | .empty, _ => fun x hx => by simp [flatE] at hx
  | .eps, h => fun x hx => by simp [flatE] at hx; subst hx; exact h
  | .cls s, h => fun x hx => by simp [flatE] at hx; subst hx; exact h
  | .seq a b, h => fun x hx => by simp [flatE] at hx; subst hx; exact h
  | .star a, h => fun x hx => by simp [flatE] at hx; subst hx; exact h
  | .alt a b, h => fun x hx => by
    rcases List.mem_append.1 (show x ∈ flatE a ++ flatE b from hx) with hx | hx
    · exact flat_wf a h.1 x hx
    · exact flat_wf b h.2 x hx
theorem flats_wf {l : List Ex} (h : Ex.Wfs l) : Ex.Wfs (l.flatMap flatE) := fun x hx => by
  obtain ⟨y, hy, hx⟩ := List.mem_flatMap.1 hx
  exact flat_wf y (h y hy) x hx
theorem setE_ok {l : List Ex} (h : Ex.Wfs l) : (setE l).Ok := foldJ_ok _ _ Ws.nil_ok fun _ hs => (h _ (cls_mem.1 hs)).1
theorem gath_wf {l : List Ex} (h : Ex.Wfs l) : Ex.Wfs (gathE l) := by
  intro x hx
  unfold gathE at hx
  split at hx
  · exact h x (mem_rest.1 hx).1
  · rename_i hs
    rcases List.mem_append.1 hx with hx | hx
    · exact h x (mem_rest.1 hx).1
    · simp at hx; subst hx; exact ⟨setE_ok h, hs⟩
theorem altE_wf {l : List Ex} (h : Ex.Wfs l) : (altE l).Wf := (fold_wf _).1 fun x hx => gath_wf (flats_wf h) x ((canE_mem _ _).1 hx)
theorem mkS_wf {a b : Ex} (ha : a.Wf) (hb : b.Wf) : (mkS a b).Wf := by
  unfold mkS
  split
  · trivial
  · split
    · exact ha
    · exact ⟨ha, hb⟩
theorem seqE_wf : ∀ (a b : Ex), a.Wf → b.Wf → (seqE a b).Wf
  | .empty, _, _, _ => trivial
  | .eps, _, _, hb => hb
  | .cls s, b, ha, hb => mkS_wf (a := .cls s) ha hb
  | .alt x y, b, ha, hb => mkS_wf (a := .alt x y) ha hb
  | .star x, b, ha, hb => mkS_wf (a := .star x) ha hb
  | .seq c d, b, ha, hb => by
    simp only [seqE]
    split
    · trivial
    · split
      · exact ha
      · exact seqE_wf c _ ha.1 (seqE_wf d b ha.2 hb)
theorem starE_wf {a : Ex} (h : a.Wf) : (starE a).Wf := by cases a <;> exact h
theorem nf_wf : ∀ (e : Ex), e.Wf → (nfE e).Wf
  | .empty, _ => trivial
  | .eps, _ => trivial
  | .cls _, h => h
  | .seq a b, h => seqE_wf _ _ (nf_wf a h.1) (nf_wf b h.2)
  | .alt a b, h => altE_wf fun x hx => by
    simp at hx
    rcases hx with rfl | rfl
    · exact nf_wf a h.1
    · exact nf_wf b h.2
  | .star a, h => starE_wf (nf_wf a h)
theorem nf_again (e : Ex) (h : e.Wf) : nfE (nfE e) = nfE e := nf_fix (nf_nf e) (nf_wf e h)
/- Sizes. -/
def wt (l : List Ex) : Nat := (l.map fun x => x.size + 1).sum
theorem wt_cons (x : Ex) (l : List Ex) : wt (x :: l) = x.size + 1 + wt l := by simp [wt]
theorem wt_append (l m : List Ex) : wt (l ++ m) = wt l + wt m := by simp [wt]
theorem Ex.one_le (e : Ex) : 1 ≤ e.size := by cases e <;> simp only [Ex.size] <;> omega
theorem wt_flat : ∀ e : Ex, wt (flatE e) ≤ e.size + 1
  | .empty => by simp [flatE, wt]
  | .eps => by simp [flatE, wt, Ex.size]
  | .cls _ => by simp [flatE, wt, Ex.size]
  | .seq a b => by simp [flatE, wt, Ex.size]
  | .star a => by simp [flatE, wt, Ex.size]
  | .alt a b => by
    have h1 := wt_flat a
    have h2 := wt_flat b
    simp only [flatE, wt_append, Ex.size]
    omega
theorem wt_perm {l m : List Ex} (h : l.Perm m) : wt l = wt m := by
  unfold wt
  exact (h.map _).sum_nat
theorem wt_rest (l : List Ex) : wt (restE l) + 2 * (l.filterMap clsS).length = wt l := by
  induction l with
  | nil => rfl
  | cons x l ih =>
    cases x <;> simp [restE, Ex.isCls, clsS, List.filterMap_cons, wt_cons, Ex.size] at ih ⊢ <;> omega
theorem wt_gath (l : List Ex) : wt (gathE l) ≤ wt l := by
  have h := wt_rest l
  unfold gathE
  split
  · omega
  · rename_i hs
    have hne : l.filterMap clsS ≠ [] := by
      intro e
      apply hs
      unfold setE
      rw [e]
      rfl
    have hlen : 1 ≤ (l.filterMap clsS).length := List.length_pos_iff.2 hne
    rw [wt_append]
    simp [wt, Ex.size] at h ⊢
    omega
theorem wt_sub : ∀ {l m : List Ex}, l.Nodup → (∀ x ∈ l, x ∈ m) → wt l ≤ wt m
  | [], _, _, _ => by simp [wt]
  | x :: l, m, hn, hs => by
    obtain ⟨m1, m2, rfl⟩ := List.append_of_mem (hs x (by simp))
    have hn' := List.nodup_cons.1 hn
    have h1 := wt_sub (l := l) (m := m1 ++ m2) hn'.2 fun y hy => by
      have h2 := hs y (List.mem_cons_of_mem _ hy)
      rcases List.mem_append.1 h2 with h2 | h2
      · exact List.mem_append.2 (.inl h2)
      · rcases List.mem_cons.1 h2 with h2 | h2
        · subst h2; exact absurd hy hn'.1
        · exact List.mem_append.2 (.inr h2)
    simp only [wt_cons, wt_append] at h1 ⊢
    omega
theorem wt_can (l : List Ex) : wt (canE l) ≤ wt l := wt_sub (canE_nodup l) fun x hx => (canE_mem l x).1 hx
theorem fold_size : ∀ (l : List Ex), (foldA l).size + 1 ≤ max 2 (wt l)
  | [] => by simp [foldA, Ex.size, wt]
  | [x] => by simp [foldA, wt]; omega
  | x :: y :: l => by
    have ih := fold_size (y :: l)
    have h1 := y.one_le
    have h2 : wt (y :: l) ≥ 2 := by rw [wt_cons]; omega
    simp only [foldA, Ex.size]
    rw [wt_cons]
    omega
theorem altE_size (a b : Ex) : (altE [a, b]).size ≤ (Ex.alt a b).size := by
  have h1 := fold_size (canE (gathE ([a, b].flatMap flatE)))
  have h2 := wt_can (gathE ([a, b].flatMap flatE))
  have h3 := wt_gath ([a, b].flatMap flatE)
  have h4 : wt ([a, b].flatMap flatE) = wt (flatE a) + wt (flatE b) := by simp [wt_append]
  have h5 := wt_flat a
  have h6 := wt_flat b
  have h7 := a.one_le
  unfold altE
  simp only [Ex.size]
  omega
theorem mkS_size (a b : Ex) : (mkS a b).size ≤ 1 + a.size + b.size := by
  unfold mkS
  split
  · simp [Ex.size]; omega
  · split
    · omega
    · simp [Ex.size]
theorem seqE_size : ∀ (a b : Ex), (seqE a b).size ≤ 1 + a.size + b.size
  | .empty, b => by simp [seqE, Ex.size]; omega
  | .eps, b => by simp [seqE, Ex.size]
  | .cls s, b => mkS_size _ _
  | .alt x y, b => mkS_size _ _
  | .star x, b => mkS_size _ _
  | .seq c d, b => by
    have h1 := seqE_size c (seqE d b)
    have h2 := seqE_size d b
    simp only [seqE]
    split
    · simp [Ex.size]; omega
    · split
      · omega
      · simp only [Ex.size] at *; omega
theorem starE_size (a : Ex) : (starE a).size ≤ 1 + a.size := by cases a <;> simp [starE, Ex.size] <;> omega
theorem nf_size : ∀ e : Ex, (nfE e).size ≤ e.size
  | .empty => Nat.le_refl _
  | .eps => Nat.le_refl _
  | .cls _ => Nat.le_refl _
  | .seq a b => by
    have h1 := seqE_size (nfE a) (nfE b)
    have h2 := nf_size a
    have h3 := nf_size b
    simp only [nfE, Ex.size]
    omega
  | .alt a b => by
    have h1 := altE_size (nfE a) (nfE b)
    have h2 := nf_size a
    have h3 := nf_size b
    simp only [nfE, Ex.size] at *
    omega
  | .star a => by
    have h1 := starE_size (nfE a)
    have h2 := nf_size a
    simp only [nfE, Ex.size]
    omega
/- What it fits, and how it begins. -/
theorem fold_nul : ∀ l : List Ex, (foldA l).nul = l.any Ex.nul
  | [] => rfl
  | [x] => by simp [foldA]
  | x :: y :: l => by
    show (x.nul || (foldA (y :: l)).nul) = _
    rw [fold_nul (y :: l)]; simp
theorem fold_fit : ∀ l : List Ex, (foldA l).fit = l.any Ex.fit
  | [] => rfl
  | [x] => by simp [foldA]
  | x :: y :: l => by
    show (x.fit || (foldA (y :: l)).fit) = _
    rw [fold_fit (y :: l)]; simp
theorem fold_fst (n : Nat) : ∀ l : List Ex, Ex.Wfs l → (foldA l).fst.has n = l.any fun x => x.fst.has n
  | [], _ => by simp [foldA, Ex.fst, Ws.has_nil]
  | [x], _ => by simp [foldA]
  | x :: y :: l, h => by
    have h1 : Ex.Wfs (y :: l) := fun z hz => h z (List.mem_cons_of_mem _ hz)
    show ((Ex.alt x (foldA (y :: l))).fst).has n = _
    rw [fst_alt x _ (h x (by simp)) ((fold_wf _).1 h1), Ws.has_join, fold_fst n (y :: l) h1]; simp
/-- A property that an Alt has if one of its kids has it, and Empty has not. -/
theorem flat_any (p : Ex → Bool) (h0 : p .empty = false) : ∀ (e : Ex), (∀ a b, (Ex.alt a b).Wf → p (.alt a b) = (p a || p b)) → e.Wf → (flatE e).any p = p e
  | .empty, _, _ => by simp [flatE, h0]
  | .eps, _, _ => by simp [flatE]
  | .cls _, _, _ => by simp [flatE]
  | .seq _ _, _, _ => by simp [flatE]
  | .star _, _, _ => by simp [flatE]
  | .alt a b, h, hw => by
    rw [h a b hw, show flatE (.alt a b) = flatE a ++ flatE b from rfl, List.any_append, flat_any p h0 a h hw.1, flat_any p h0 b h hw.2]
theorem flats_any (p : Ex → Bool) (h0 : p .empty = false) (h : ∀ a b, (Ex.alt a b).Wf → p (.alt a b) = (p a || p b)) : ∀ {l : List Ex}, Ex.Wfs l → (l.flatMap flatE).any p = l.any p
  | [], _ => rfl
  | x :: l, hw => by
    rw [List.flatMap_cons, List.any_append, List.any_cons, flat_any p h0 x h (hw x (by simp)), flats_any p h0 h fun z hz => hw z (List.mem_cons_of_mem _ hz)]
theorem any_mem {p : Ex → Bool} {l m : List Ex} (h : ∀ x, x ∈ l ↔ x ∈ m) : l.any p = m.any p := by
  cases hq : m.any p with
  | true =>
    obtain ⟨x, hx, hp⟩ := List.any_eq_true.1 hq
    exact List.any_eq_true.2 ⟨x, (h x).2 hx, hp⟩
  | false =>
    rw [List.any_eq_false] at hq ⊢
    exact fun x hx => hq x ((h x).1 hx)
theorem setE_has (l : List Ex) (n : Nat) : (setE l).has n = l.any fun x => x.isCls && x.fst.has n := by
  unfold setE
  rw [foldJ_has, Ws.has_nil, Bool.false_or]
  induction l with
  | nil => rfl
  | cons x l ih =>
    rw [List.any_cons, ← ih]
    cases x with
    | cls s => rw [show (Ex.cls s :: l).filterMap clsS = s :: l.filterMap clsS from rfl, List.any_cons]; rfl
    | empty => rw [show (Ex.empty :: l).filterMap clsS = l.filterMap clsS from rfl]; simp [Ex.isCls]
    | eps => rw [show (Ex.eps :: l).filterMap clsS = l.filterMap clsS from rfl]; simp [Ex.isCls]
    | seq a b => rw [show (Ex.seq a b :: l).filterMap clsS = l.filterMap clsS from rfl]; simp [Ex.isCls]
    | alt a b => rw [show (Ex.alt a b :: l).filterMap clsS = l.filterMap clsS from rfl]; simp [Ex.isCls]
    | star a => rw [show (Ex.star a :: l).filterMap clsS = l.filterMap clsS from rfl]; simp [Ex.isCls]
theorem any_rest (p : Ex → Bool) (l : List Ex) : l.any p = ((restE l).any p || l.any fun x => x.isCls && p x) := by
  induction l with
  | nil => rfl
  | cons x l ih =>
    have e : restE (x :: l) = if x.isCls = true then restE l else x :: restE l := by
      simp only [restE, List.filter_cons]
      cases x.isCls <;> rfl
    rw [List.any_cons, List.any_cons, e, ih]
    cases hc : x.isCls with
    | true => rw [if_pos rfl]; cases p x <;> simp
    | false => rw [if_neg (by simp), List.any_cons]; cases p x <;> simp
/-- What is gathered has a property just if one of those has it, where the property of a Class is told by its bytes. -/
theorem gath_nul (l : List Ex) : (gathE l).any Ex.nul = l.any Ex.nul := by
  have h : (l.any fun x => x.isCls && x.nul) = false := by
    rw [List.any_eq_false]
    intro x _
    cases x <;> simp [Ex.isCls, Ex.nul]
  rw [any_rest Ex.nul l, h, Bool.or_false]
  unfold gathE
  split
  · rfl
  · simp [Ex.nul]
theorem gath_fst (l : List Ex) (n : Nat) : (gathE l).any (fun x => x.fst.has n) = l.any fun x => x.fst.has n := by
  rw [any_rest (fun x => x.fst.has n) l, ← setE_has]
  unfold gathE
  split
  · rename_i h
    rw [h, Ws.has_nil, Bool.or_false]
  · rw [List.any_append]
    simp [Ex.fst]
theorem gath_fit {l : List Ex} (hw : Ex.Wfs l) : (gathE l).any Ex.fit = l.any Ex.fit := by
  rw [any_rest Ex.fit l]
  have h : (l.any fun x => x.isCls && x.fit) = !decide (setE l = Ws.nil) := by
    by_cases hs : setE l = Ws.nil
    · rw [hs]
      simp only [decide_true, Bool.not_true]
      rw [List.any_eq_false]
      intro x hx
      cases x <;> simp [Ex.isCls]
      rename_i s
      have hws : s.Ok ∧ s ≠ Ws.nil := hw _ hx
      exfalso
      apply hws.2
      refine Ws.has_ext hws.1 Ws.nil_ok fun n _ => ?_
      have h1 := setE_has l n
      rw [hs, Ws.has_nil] at h1
      have h2 := (List.any_eq_false.1 h1.symm) _ hx
      simp [Ex.isCls, Ex.fst] at h2
      rw [h2, Ws.has_nil]
    · rw [decide_eq_false hs]
      simp only [Bool.not_false]
      have hc : ∃ s, .cls s ∈ l := by
        apply Classical.byContradiction
        intro hne
        exact hs (setE_none fun t ht => hne ⟨t, ht⟩)
      obtain ⟨s, hc⟩ := hc
      exact List.any_eq_true.2 ⟨_, hc, rfl⟩
  rw [h]
  unfold gathE
  split
  · rename_i hs
    rw [decide_eq_true hs]; simp
  · rename_i hs
    rw [decide_eq_false hs, List.any_append]
    simp [Ex.fit]
theorem altE_nul {l : List Ex} (h : Ex.Wfs l) : (altE l).nul = l.any Ex.nul := by
  unfold altE
  rw [fold_nul, any_mem (canE_mem _), gath_nul, flats_any Ex.nul rfl (fun _ _ _ => rfl) h]
theorem altE_fit {l : List Ex} (h : Ex.Wfs l) : (altE l).fit = l.any Ex.fit := by
  unfold altE
  rw [fold_fit, any_mem (canE_mem _), gath_fit (flats_wf h), flats_any Ex.fit rfl (fun _ _ _ => rfl) h]
theorem altE_fst {l : List Ex} (h : Ex.Wfs l) (n : Nat) : (altE l).fst.has n = l.any fun x => x.fst.has n := by
  unfold altE
  rw [fold_fst n _ (fun x hx => gath_wf (flats_wf h) x ((canE_mem _ _).1 hx)), any_mem (canE_mem _), gath_fst, flats_any (fun x => x.fst.has n) (by simp [Ex.fst, Ws.has_nil]) (fun a b hw => by rw [fst_alt a b hw.1 hw.2, Ws.has_join]) h]
theorem Ws.join_nil (s : Ws) : s.join Ws.nil = s := by
  obtain ⟨a, b, c, d⟩ := s
  simp [Ws.join, Ws.nil]
theorem Ws.join_assoc (s t u : Ws) : (s.join t).join u = s.join (t.join u) := by
  simp [Ws.join, Nat.or_assoc]
/-- How two behind one another begin. -/
def sf (na fa fb : Bool) (sa sb : Ws) : Ws := if (fa && fb) = true then (if na = true then sa.join sb else sa) else Ws.nil
theorem fst_seq (a b : Ex) : (Ex.seq a b).fst = sf a.nul a.fit b.fit a.fst b.fst := rfl
theorem sf_assoc (nc fc nd fd fb : Bool) (sc sd sb : Ws) : sf nc fc (fd && fb) sc (sf nd fd fb sd sb) = sf (nc && nd) (fc && fd) fb (sf nc fc fd sc sd) sb := by
  cases nc <;> cases fc <;> cases nd <;> cases fd <;> cases fb <;> simp [sf, Ws.join_assoc]
/-- The same is told of both. -/
def Alike (a b : Ex) : Prop := a.nul = b.nul ∧ a.fit = b.fit ∧ a.fst = b.fst
theorem Alike.refl (a : Ex) : Alike a a := ⟨rfl, rfl, rfl⟩
theorem Alike.trans {a b c : Ex} (h : Alike a b) (k : Alike b c) : Alike a c := ⟨h.1.trans k.1, h.2.1.trans k.2.1, h.2.2.trans k.2.2⟩
theorem Alike.seq {a b c d : Ex} (h : Alike a c) (k : Alike b d) : Alike (.seq a b) (.seq c d) := by
  obtain ⟨h1, h2, h3⟩ := h
  obtain ⟨k1, k2, k3⟩ := k
  refine ⟨by simp only [Ex.nul, h1, k1], by simp only [Ex.fit, h2, k2], ?_⟩
  rw [fst_seq, fst_seq, h1, h2, h3, k2, k3]
theorem alike_empty {a b : Ex} (ha : a.fit = false ∨ b.fit = false) (hn : a.nul = false ∨ b.nul = false) : Alike .empty (.seq a b) := by
  have h1 : (a.fit && b.fit) = false := by rcases ha with h | h <;> simp [h]
  refine ⟨?_, ?_, ?_⟩
  · simp only [Ex.nul]; rcases hn with h | h <;> simp [h]
  · simp only [Ex.fit, h1]
  · rw [fst_seq]; simp [sf, h1, Ex.fst]
theorem mkS_alike {a b : Ex} (ha : a.Wf) : Alike (mkS a b) (.seq a b) := by
  unfold mkS
  split
  · rename_i h
    rw [isEmp_iff.1 h]
    exact alike_empty (.inr rfl) (.inr rfl)
  · split
    · rename_i h
      rw [isEps_iff.1 h]
      refine ⟨by simp [Ex.nul], by simp [Ex.fit], ?_⟩
      rw [fst_seq]
      have hv := (fst_void a ha).1
      cases hf : a.fit with
      | true => cases a.nul <;> simp [sf, Ex.fit, Ex.fst, Ws.join_nil]
      | false => simp [sf, hv hf]
    · exact Alike.refl _
theorem seqE_alike : ∀ (a b : Ex), a.Wf → b.Wf → Alike (seqE a b) (.seq a b)
  | .empty, _, _, _ => alike_empty (.inl rfl) (.inl rfl)
  | .eps, b, _, hb => by
    refine ⟨by simp [seqE, Ex.nul], by simp [seqE, Ex.fit], ?_⟩
    rw [fst_seq]
    have hv := (fst_void b hb).1
    cases hf : b.fit with
    | true => simp [sf, seqE, Ex.fit, Ex.fst, Ex.nul, Ws.nil_join]
    | false => simp [sf, seqE, hv hf]
  | .cls s, _, ha, _ => mkS_alike (a := .cls s) ha
  | .alt x y, _, ha, _ => mkS_alike (a := .alt x y) ha
  | .star x, _, ha, _ => mkS_alike (a := .star x) ha
  | .seq c d, b, ha, hb => by
    simp only [seqE]
    split
    · rename_i h
      rw [isEmp_iff.1 h]
      exact alike_empty (.inr rfl) (.inr rfl)
    · split
      · rename_i h1 h
        have := mkS_alike (a := .seq c d) (b := b) ha
        unfold mkS at this
        rw [if_neg h1, if_pos h] at this
        exact this
      · have h1 := seqE_alike d b ha.2 hb
        have h2 := seqE_alike c (seqE d b) ha.1 (seqE_wf d b ha.2 hb)
        refine h2.trans ((Alike.refl c).seq h1 |>.trans ⟨?_, ?_, ?_⟩)
        · simp only [Ex.nul, Bool.and_assoc]
        · simp only [Ex.fit, Bool.and_assoc]
        · have := sf_assoc c.nul c.fit d.nul d.fit b.fit c.fst d.fst b.fst
          rw [fst_seq, fst_seq (.seq c d) b, fst_seq d b, fst_seq c d]
          exact this
theorem starE_alike (a : Ex) : Alike (starE a) (.star a) := by
  cases a <;> exact ⟨rfl, rfl, rfl⟩
theorem altE_alike {a b : Ex} (ha : a.Wf) (hb : b.Wf) : Alike (altE [a, b]) (.alt a b) := by
  have hw : Ex.Wfs [a, b] := fun x hx => by
    simp at hx
    rcases hx with rfl | rfl
    · exact ha
    · exact hb
  refine ⟨by rw [altE_nul hw]; simp [Ex.nul], by rw [altE_fit hw]; simp [Ex.fit], ?_⟩
  refine Ws.has_ext (fst_ok _ (altE_wf hw)) (fst_ok (.alt a b) ⟨ha, hb⟩) fun n _ => ?_
  rw [altE_fst hw n, fst_alt a b ha hb, Ws.has_join]
  simp
theorem Alike.alt {a b c d : Ex} (h : Alike a c) (k : Alike b d) : Alike (.alt a b) (.alt c d) := by
  obtain ⟨h1, h2, h3⟩ := h
  obtain ⟨k1, k2, k3⟩ := k
  exact ⟨by simp only [Ex.nul, h1, k1], by simp only [Ex.fit, h2, k2], by simp only [Ex.fst, h2, h3, k2, k3]⟩
theorem Alike.star {a c : Ex} (h : Alike a c) : Alike (.star a) (.star c) := ⟨rfl, rfl, h.2.2⟩
theorem nf_alike : ∀ (e : Ex), e.Wf → Alike (nfE e) e
  | .empty, _ => Alike.refl _
  | .eps, _ => Alike.refl _
  | .cls _, _ => Alike.refl _
  | .seq a b, h => (seqE_alike _ _ (nf_wf a h.1) (nf_wf b h.2)).trans ((nf_alike a h.1).seq (nf_alike b h.2))
  | .alt a b, h => (altE_alike (nf_wf a h.1) (nf_wf b h.2)).trans ((nf_alike a h.1).alt (nf_alike b h.2))
  | .star a, h => (starE_alike _).trans (nf_alike a h).star
/-- A normal form that fits nothing is Empty. -/
theorem NF.fits {e : Ex} (h : NF e) : e.isEmp = false → e.fit = true := by
  induction h with
  | empty => intro h; cases h
  | eps => exact fun _ => rfl
  | cls s => exact fun _ => rfl
  | seq a b ha hb h1 h2 h3 h4 h5 iha ihb => exact fun _ => by simp only [Ex.fit, iha h1, ihb h4, Bool.and_self]
  | star a ha h1 h2 h3 ih => exact fun _ => rfl
  | alts x y l hn ho ih =>
    intro _
    show (x.fit || (foldA (y :: l)).fit) = true
    rw [ih x (by simp) (ho.1 x (by simp)).1]
    rfl
theorem nf_void (e : Ex) (h : e.Wf) : (nfE e).isEmp = !e.fit := by
  have h1 := (nf_alike e h).2.1
  cases hq : (nfE e).isEmp with
  | true =>
    rw [isEmp_iff.1 hq] at h1
    rw [← h1]
    rfl
  | false =>
    rw [(nf_nf e).fits hq] at h1
    rw [← h1]
    rfl
/- Texts, byte by byte. -/
def wordA : List UInt8 → Ex
  | [] => .eps
  | [c] => .cls (ofN [c.toNat])
  | c :: d :: l => .seq (.cls (ofN [c.toNat])) (wordA (d :: l))
theorem wordA_some : ∀ (c : UInt8) (l : List UInt8), (wordA (c :: l)).isEmp = false ∧ (wordA (c :: l)).isEps = false
  | _, [] => ⟨rfl, rfl⟩
  | _, _ :: _ => ⟨rfl, rfl⟩
theorem word_nf : ∀ l : List UInt8, NF (wordA l)
  | [] => .eps
  | [_] => .cls _
  | _ :: d :: l => .seq _ _ (.cls _) (word_nf (d :: l)) rfl rfl rfl (wordA_some d l).1 (wordA_some d l).2
theorem word_seq : ∀ (l m : List UInt8), seqE (wordA l) (wordA m) = wordA (l ++ m)
  | [], _ => rfl
  | [_], [] => rfl
  | [_], d :: m => by
    show mkS _ _ = _
    rw [mkS_seq (wordA_some d m).1 (wordA_some d m).2]
    rfl
  | _ :: _ :: _, [] => by
    rw [List.append_nil]
    rfl
  | _ :: d :: l, e :: m => by
    have ih := word_seq (d :: l) (e :: m)
    have h := wordA_some e m
    show (if (wordA (e :: m)).isEmp = true then _ else if (wordA (e :: m)).isEps = true then _ else seqE _ (seqE (wordA (d :: l)) (wordA (e :: m)))) = _
    rw [h.1, h.2, ih]
    show mkS _ _ = _
    have h2 := wordA_some d (l ++ e :: m)
    rw [show d :: l ++ e :: m = d :: (l ++ e :: m) from rfl, mkS_seq h2.1 h2.2]
    rfl
end Go.Proofs.YtfmdcnfniimkoaaGreat
/- Chains made with care as a whole are made so node by node; no program. -/
namespace Go.Proofs.YtfmdcnfniimkoaaGreat
/-- The parts of a chain of one kind. -/
def partE (k : Nat) : Ex → List Ex
  | .empty => [.empty]
  | .eps => [.eps]
  | .cls s => [.cls s]
  | .seq a b => if k = 4 then partE k a ++ partE k b else [.seq a b]
  | .alt a b => if k = 5 then partE k a ++ partE k b else [.alt a b]
  | .star a => [.star a]
def partL (k : Nat) (l : List Ex) : List Ex := l.flatMap (partE k)
theorem part_mem_size (k : Nat) : ∀ (e x : Ex), x ∈ partE k e → x.size ≤ e.size
  | .empty, x, h => by simp [partE] at h; subst h; exact Nat.le_refl _
  | .eps, x, h => by simp [partE] at h; subst h; exact Nat.le_refl _
  | .cls s, x, h => by simp [partE] at h; subst h; exact Nat.le_refl _
  | .star a, x, h => by simp [partE] at h; subst h; exact Nat.le_refl _
  | .seq a b, x, h => by
    unfold partE at h
    split at h
    · rcases List.mem_append.1 h with h | h
      · have := part_mem_size k a x h; simp only [Ex.size]; omega
      · have := part_mem_size k b x h; simp only [Ex.size]; omega
    · simp at h; subst h; exact Nat.le_refl _
  | .alt a b, x, h => by
    unfold partE at h
    split at h
    · rcases List.mem_append.1 h with h | h
      · have := part_mem_size k a x h; simp only [Ex.size]; omega
      · have := part_mem_size k b x h; simp only [Ex.size]; omega
    · simp at h; subst h; exact Nat.le_refl _
theorem part_mem_wf (k : Nat) : ∀ (e x : Ex), e.Wf → x ∈ partE k e → x.Wf
  | .empty, x, hw, h => by simp [partE] at h; subst h; exact hw
  | .eps, x, hw, h => by simp [partE] at h; subst h; exact hw
  | .cls s, x, hw, h => by simp [partE] at h; subst h; exact hw
  | .star a, x, hw, h => by simp [partE] at h; subst h; exact hw
  | .seq a b, x, hw, h => by
    unfold partE at h
    split at h
    · rcases List.mem_append.1 h with h | h
      · exact part_mem_wf k a x hw.1 h
      · exact part_mem_wf k b x hw.2 h
    · simp at h; subst h; exact hw
  | .alt a b, x, hw, h => by
    unfold partE at h
    split at h
    · rcases List.mem_append.1 h with h | h
      · exact part_mem_wf k a x hw.1 h
      · exact part_mem_wf k b x hw.2 h
    · simp at h; subst h; exact hw
theorem part_len (k : Nat) : ∀ e : Ex, (partE k e).length ≤ e.size
  | .empty => by simp [partE, Ex.size]
  | .eps => by simp [partE, Ex.size]
  | .cls s => by simp [partE, Ex.size]
  | .star a => by simp [partE, Ex.size]
  | .seq a b => by
    have h1 := part_len k a
    have h2 := part_len k b
    unfold partE
    split
    · simp only [List.length_append, Ex.size]; omega
    · simp only [List.length_singleton, Ex.size]; omega
  | .alt a b => by
    have h1 := part_len k a
    have h2 := part_len k b
    unfold partE
    split
    · simp only [List.length_append, Ex.size]; omega
    · simp only [List.length_singleton, Ex.size]; omega
theorem partL_append (k : Nat) (l m : List Ex) : partL k (l ++ m) = partL k l ++ partL k m := by simp [partL]
theorem partL_len (k : Nat) (l : List Ex) : (partL k l).length ≤ Rx.sizes (l.map Ex.rx) := by
  induction l with
  | nil => simp [partL, Rx.sizes]
  | cons e l ih =>
    have := part_len k e
    have h2 := Ex.size_rx e
    simp only [partL, List.flatMap_cons, List.length_append, List.map_cons, Rx.sizes] at ih ⊢
    omega
/-- Some behind one another. -/
def foldS : List Ex → Ex
  | [] => .eps
  | [r] => r
  | r :: r' :: rs => .seq r (foldS (r' :: rs))
theorem foldS_rx : ∀ l : List Ex, (foldS l).rx = foldR 4 2 (l.map Ex.rx)
  | [] => rfl
  | [_] => rfl
  | r :: r' :: rs => by
    have ih := foldS_rx (r' :: rs)
    simp only [foldS, Ex.rx, List.map_cons, foldR] at ih ⊢
    rw [ih]
def seqP (p : List Ex) : Ex := if p.any Ex.isEmp = true then .empty else foldS (p.filter fun x => !x.isEps)
def seqF (l : List Ex) : Ex := l.foldr seqE .eps
theorem seqE_mkS {x b : Ex} (h1 : x.isEmp = false) (h2 : x.isEps = false) (h3 : x.isSeq = false) : seqE x b = mkS x b := by
  cases x <;> simp_all [Ex.isEmp, Ex.isEps, Ex.isSeq, seqE]
theorem seqE_emp (a : Ex) : seqE a .empty = .empty := by cases a <;> rfl
theorem seqE_eps_nf {a : Ex} : seqE a .eps = a := by
  cases a <;> rfl
/-- Parts that are no Seqs. -/
theorem seqP_foldr : ∀ (p : List Ex), (∀ x ∈ p, x.isSeq = false) → p.foldr seqE .eps = seqP p
  | [], _ => rfl
  | x :: p, h => by
    have ih := seqP_foldr p fun y hy => h y (List.mem_cons_of_mem _ hy)
    rw [List.foldr_cons, ih]
    unfold seqP
    cases h1 : x.isEmp with
    | true =>
      obtain rfl := isEmp_iff.1 h1
      rw [List.any_cons, h1]
      rfl
    | false =>
      rw [List.any_cons, h1, Bool.false_or]
      cases h2 : x.isEps with
      | true =>
        obtain rfl := isEps_iff.1 h2
        rw [List.filter_cons, h2]
        rfl
      | false =>
        rw [List.filter_cons, h2]
        simp only [Bool.not_false, if_true]
        rw [seqE_mkS h1 h2 (h x (by simp))]
        by_cases hq : p.any Ex.isEmp = true
        · rw [if_pos hq, if_pos hq]; rfl
        · rw [if_neg hq, if_neg hq]
          have hm : ∀ y ∈ p.filter fun x => !x.isEps, y.isEmp = false ∧ y.isEps = false := fun y hy => by
            obtain ⟨y1, y2⟩ := List.mem_filter.1 hy
            refine ⟨?_, by simpa using y2⟩
            cases hc : y.isEmp with
            | false => rfl
            | true => exact absurd (List.any_eq_true.2 ⟨y, y1, hc⟩) hq
          generalize (p.filter fun x => !x.isEps) = q at *
          match q, hm with
          | [], _ => rfl
          | [y], hm =>
            obtain ⟨a1, a2⟩ := hm y (by simp)
            show mkS x y = .seq x y
            exact mkS_seq a1 a2
          | y :: z :: q, hm => rfl
theorem part_foldr : ∀ (e b : Ex), NF e → seqE e b = (partE 4 e).foldr seqE b
  | .empty, b, _ => rfl
  | .eps, b, _ => rfl
  | .cls s, b, _ => rfl
  | .star a, b, _ => rfl
  | .alt x y, b, _ => rfl
  | .seq c d, b, h => by
    have hs : NF c ∧ NF d ∧ c.isEmp = false ∧ c.isEps = false ∧ c.isSeq = false ∧ d.isEmp = false ∧ d.isEps = false := by
      generalize hz : Ex.seq c d = z at h
      cases h with
      | seq a b h1 h2 h3 h4 h5 h6 h7 => injection hz with e1 e2; subst e1 e2; exact ⟨h1, h2, h3, h4, h5, h6, h7⟩
      | empty => cases hz
      | eps => cases hz
      | cls s => cases hz
      | star a h1 h2 h3 h4 => cases hz
      | alts x y l h1 h2 => cases hz
    obtain ⟨hc, hd, c1, c2, c3, d1, d2⟩ := hs
    have ic := part_foldr c
    have id' := part_foldr d b hd
    have e : partE 4 (.seq c d) = partE 4 c ++ partE 4 d := by simp [partE]
    rw [e, List.foldr_append, ← id', ← ic _ hc]
    simp only [seqE]
    split
    · rename_i hb
      rw [isEmp_iff.1 hb, seqE_emp, seqE_emp]
    · split
      · rename_i hb
        rw [isEps_iff.1 hb, seqE_eps_nf, seqE_plain c1 c2 c3 d1 d2]
      · rfl
theorem part_plain : ∀ (e : Ex), ∀ x ∈ partE 4 e, x.isSeq = false
  | .empty, x, h => by simp [partE] at h; subst h; rfl
  | .eps, x, h => by simp [partE] at h; subst h; rfl
  | .cls s, x, h => by simp [partE] at h; subst h; rfl
  | .star a, x, h => by simp [partE] at h; subst h; rfl
  | .alt a b, x, h => by simp [partE] at h; subst h; rfl
  | .seq a b, x, h => by
    have e : partE 4 (.seq a b) = partE 4 a ++ partE 4 b := by simp [partE]
    rw [e] at h
    rcases List.mem_append.1 h with h | h
    · exact part_plain a x h
    · exact part_plain b x h
/-- What the landed code does of a row of normal forms. -/
theorem seqL_eq {l : List Ex} (h : ∀ x ∈ l, NF x) : seqP (partL 4 l) = seqF l := by
  rw [← seqP_foldr _ fun x hx => by
    obtain ⟨e, _, hx⟩ := List.mem_flatMap.1 hx
    exact part_plain e x hx]
  unfold seqF
  induction l with
  | nil => rfl
  | cons e l ih =>
    rw [List.foldr_cons, ← ih fun x hx => h x (List.mem_cons_of_mem _ hx), part_foldr e _ (h e (by simp))]
    simp only [partL, List.flatMap_cons, List.foldr_append]
theorem seqE_assoc : ∀ (x z y : Ex), NF x → seqE (seqE x z) y = seqE x (seqE z y)
  | .empty, _, _, _ => rfl
  | .eps, _, _, _ => rfl
  | .cls s, z, y, _ => plain (.cls s) z y rfl rfl rfl
  | .star a, z, y, _ => plain (.star a) z y rfl rfl rfl
  | .alt a b, z, y, _ => plain (.alt a b) z y rfl rfl rfl
  | .seq c d, z, y, h => by
    have hs : NF c ∧ NF d ∧ c.isEmp = false ∧ c.isEps = false ∧ c.isSeq = false ∧ d.isEmp = false ∧ d.isEps = false := by
      generalize hz : Ex.seq c d = q at h
      cases h with
      | seq a b h1 h2 h3 h4 h5 h6 h7 => injection hz with e1 e2; subst e1 e2; exact ⟨h1, h2, h3, h4, h5, h6, h7⟩
      | empty => cases hz
      | eps => cases hz
      | cls s => cases hz
      | star a h1 h2 h3 h4 => cases hz
      | alts x y l h1 h2 => cases hz
    obtain ⟨hc, hd, c1, c2, c3, d1, d2⟩ := hs
    have ic := fun z => seqE_assoc c z y hc
    have id' := seqE_assoc d z y hd
    cases z1 : z.isEmp with
    | true => rw [isEmp_iff.1 z1, seqE_emp]; show Ex.empty = seqE _ Ex.empty; rw [seqE_emp]
    | false =>
      cases z2 : z.isEps with
      | true => rw [isEps_iff.1 z2, seqE_eps_nf]; rfl
      | false =>
        have e1 : seqE (.seq c d) z = seqE c (seqE d z) := by simp only [seqE, z1, z2]; rfl
        rw [e1, ic, id']
        simp only [seqE]
        split
        · rename_i hb
          rw [isEmp_iff.1 hb, seqE_emp, seqE_emp]
        · split
          · rename_i hb
            rw [isEps_iff.1 hb, seqE_eps_nf, seqE_plain c1 c2 c3 d1 d2]
          · rfl
where
  plain (x z y : Ex) (h1 : x.isEmp = false) (h2 : x.isEps = false) (h3 : x.isSeq = false) : seqE (seqE x z) y = seqE x (seqE z y) := by
    cases z1 : z.isEmp with
    | true => rw [isEmp_iff.1 z1, seqE_emp]; show Ex.empty = seqE _ Ex.empty; rw [seqE_emp]
    | false =>
      cases z2 : z.isEps with
      | true => rw [isEps_iff.1 z2, seqE_eps_nf]; rfl
      | false =>
        rw [seqE_plain h1 h2 h3 z1 z2]
        simp only [seqE]
        split
        · rename_i hb
          rw [isEmp_iff.1 hb, seqE_emp, seqE_emp]
        · split
          · rename_i hb
            rw [isEps_iff.1 hb, seqE_eps_nf, seqE_plain h1 h2 h3 z1 z2]
          · rfl
theorem seqF_from {l : List Ex} (y : Ex) (h : ∀ x ∈ l, NF x) : l.foldr seqE y = seqE (seqF l) y := by
  unfold seqF
  induction l with
  | nil => rfl
  | cons x l ih => rw [List.foldr_cons, List.foldr_cons, ih fun z hz => h z (List.mem_cons_of_mem _ hz), seqE_assoc _ _ _ (h x (by simp))]
theorem nfs_nf (l : List Ex) : ∀ x ∈ l.map nfE, NF x := fun x hx => by
  obtain ⟨e, _, rfl⟩ := List.mem_map.1 hx
  exact nf_nf e
/-- The normal form of a chain is made of its parts' ones. -/
theorem seqF_part : ∀ e : Ex, seqF ((partE 4 e).map nfE) = nfE e
  | .empty => rfl
  | .eps => rfl
  | .cls s => rfl
  | .star a => seqE_eps_nf
  | .alt a b => seqE_eps_nf
  | .seq a b => by
    have ha := seqF_part a
    have hb := seqF_part b
    have e : partE 4 (.seq a b) = partE 4 a ++ partE 4 b := by simp [partE]
    rw [e, List.map_append]
    unfold seqF at hb ⊢
    rw [List.foldr_append, hb, seqF_from _ (nfs_nf _), ha]
    rfl
theorem seqF_parts (l : List Ex) : seqF ((partL 4 l).map nfE) = seqF (l.map nfE) := by
  induction l with
  | nil => rfl
  | cons e l ih =>
    have e1 : partL 4 (e :: l) = partE 4 e ++ partL 4 l := rfl
    rw [e1, List.map_append]
    unfold seqF at ih ⊢
    rw [List.foldr_append, ih, seqF_from _ (nfs_nf _), seqF_part]
    rfl
/-- normal of a Seq, as the landed code has it. -/
theorem seq_whole (l : List Ex) : seqP (partL 4 ((partL 4 l).map nfE)) = seqF (l.map nfE) := by
  rw [seqL_eq (nfs_nf _), seqF_parts]
theorem seq_node (a b : Ex) : seqP (partL 4 ((partL 4 [a, b]).map nfE)) = nfE (.seq a b) := by
  rw [seq_whole]
  show seqE (nfE a) (seqE (nfE b) .eps) = _
  rw [seqE_eps_nf]
  rfl
/- Alts. -/
def bareL (p : List Ex) : List Ex := p.filter fun x => !x.isEmp && !x.isCls
def gathP (p : List Ex) : List Ex := if setE p = Ws.nil then bareL p else bareL p ++ [.cls (setE p)]
theorem flat_part : ∀ e : Ex, flatE e = (partE 5 e).filter fun x => !x.isEmp
  | .empty => rfl
  | .eps => rfl
  | .cls s => rfl
  | .star a => rfl
  | .seq a b => rfl
  | .alt a b => by
    have e : partE 5 (.alt a b) = partE 5 a ++ partE 5 b := by simp [partE]
    rw [e, List.filter_append, ← flat_part a, ← flat_part b]
    rfl
theorem flats_part (l : List Ex) : l.flatMap flatE = (partL 5 l).filter fun x => !x.isEmp := by
  induction l with
  | nil => rfl
  | cons e l ih =>
    have e1 : partL 5 (e :: l) = partE 5 e ++ partL 5 l := rfl
    rw [e1, List.filter_append, ← ih, ← flat_part]
    rfl
theorem setE_filter (p : List Ex) : setE (p.filter fun x => !x.isEmp) = setE p := by
  unfold setE
  congr 1
  induction p with
  | nil => rfl
  | cons x p ih =>
    cases x with
    | empty => rw [List.filter_cons]; exact ih
    | eps => rw [List.filter_cons]; exact ih
    | cls s => rw [List.filter_cons]; exact congrArg (List.cons s) ih
    | seq a b => rw [List.filter_cons]; exact ih
    | alt a b => rw [List.filter_cons]; exact ih
    | star a => rw [List.filter_cons]; exact ih
theorem gath_part (l : List Ex) : gathE (l.flatMap flatE) = gathP (partL 5 l) := by
  unfold gathE gathP
  rw [flats_part, setE_filter]
  have : restE ((partL 5 l).filter fun x => !x.isEmp) = bareL (partL 5 l) := by
    unfold restE bareL
    rw [List.filter_filter]
    congr 1
    funext x
    rw [Bool.and_comm]
  rw [this]
theorem altE_part (l : List Ex) : altE l = foldA (canE (gathP (partL 5 l))) := by
  unfold altE
  rw [gath_part]
theorem can_ext {X Y : List Ex} (h : ∀ x, x ∈ X ↔ x ∈ Y) : canE X = canE Y :=
  canE_eq (canE_order Y) (canE_nodup Y) fun x => by rw [canE_mem]; exact h x
/-- The same but for their Classes, and the same bytes in these. -/
def Sim (X Y : List Ex) : Prop := (∀ x : Ex, x.isCls = false → (x ∈ X ↔ x ∈ Y)) ∧ setE X = setE Y
theorem Sim.refl (X : List Ex) : Sim X X := ⟨fun _ _ => Iff.rfl, rfl⟩
theorem Sim.symm {X Y : List Ex} (h : Sim X Y) : Sim Y X := ⟨fun x hx => (h.1 x hx).symm, h.2.symm⟩
theorem Sim.trans {X Y Z : List Ex} (h : Sim X Y) (k : Sim Y Z) : Sim X Z := ⟨fun x hx => (h.1 x hx).trans (k.1 x hx), h.2.trans k.2⟩
theorem foldJ_from (l : List Ws) : ∀ z : Ws, l.foldl Ws.join z = z.join (l.foldl Ws.join Ws.nil) := by
  induction l with
  | nil => intro z; exact (Ws.join_nil z).symm
  | cons s l ih => intro z; rw [List.foldl_cons, List.foldl_cons, ih (z.join s), ih (Ws.nil.join s), Ws.nil_join, Ws.join_assoc]
theorem setE_append (X Y : List Ex) : setE (X ++ Y) = (setE X).join (setE Y) := by
  unfold setE
  rw [List.filterMap_append, List.foldl_append, foldJ_from (Y.filterMap clsS)]
theorem Sim.append {X Y Z W : List Ex} (h : Sim X Y) (k : Sim Z W) : Sim (X ++ Z) (Y ++ W) :=
  ⟨fun x hx => by rw [List.mem_append, List.mem_append, h.1 x hx, k.1 x hx], by rw [setE_append, setE_append, h.2, k.2]⟩
theorem gath_mem {l : List Ex} {x : Ex} : x ∈ gathE l ↔ (x ∈ l ∧ x.isCls = false) ∨ (setE l ≠ Ws.nil ∧ x = .cls (setE l)) := by
  unfold gathE
  split
  · rename_i h
    rw [mem_rest]
    exact ⟨fun h => .inl h, fun h' => h'.elim id fun h' => absurd h h'.1⟩
  · rename_i h
    rw [List.mem_append, mem_rest, List.mem_singleton]
    exact ⟨fun h' => h'.elim .inl fun h' => .inr ⟨h, h'⟩, fun h' => h'.elim .inl fun h' => .inr h'.2⟩
theorem Sim.can {X Y : List Ex} (h : Sim X Y) : canE (gathE X) = canE (gathE Y) := by
  refine can_ext fun x => ?_
  rw [gath_mem, gath_mem, h.2]
  constructor
  · rintro (⟨h1, h2⟩ | h1)
    · exact .inl ⟨(h.1 x h2).1 h1, h2⟩
    · exact .inr h1
  · rintro (⟨h1, h2⟩ | h1)
    · exact .inl ⟨(h.1 x h2).2 h1, h2⟩
    · exact .inr h1
theorem sim_can {X : List Ex} (hw : Ex.Wfs X) : Sim (canE (gathE X)) X := by
  refine ⟨fun x hx => ?_, ?_⟩
  · rw [canE_mem, gath_mem]
    constructor
    · rintro (h | ⟨_, rfl⟩)
      · exact h.1
      · cases hx
    · exact fun h => .inl ⟨h, hx⟩
  · by_cases hn : setE X = Ws.nil
    · rw [hn]
      refine setE_none fun t ht => ?_
      rw [canE_mem, gath_mem] at ht
      rcases ht with ht | ht
      · cases ht.2
      · exact ht.1 hn
    · refine setE_one (setE_ok hw) ?_ fun t ht => ?_
      · rw [canE_mem, gath_mem]; exact .inr ⟨hn, rfl⟩
      · rw [canE_mem, gath_mem] at ht
        rcases ht with ht | ht
        · cases ht.2
        · exact (Ex.cls.inj ht.2)
theorem flat_alt {l : List Ex} (h : ∀ x ∈ l, NF x) : flatE (altE l) = canE (gathE (l.flatMap flatE)) := by
  unfold altE
  refine flat_fold _ (gath_ok fun x hx => ?_).1
  obtain ⟨e, he, hx⟩ := List.mem_flatMap.1 hx
  exact (h e he).row.2.1.1 x hx
theorem nfs_wf {l : List Ex} (h : Ex.Wfs l) : Ex.Wfs (l.map nfE) := fun x hx => by
  obtain ⟨e, he, rfl⟩ := List.mem_map.1 hx
  exact nf_wf e (h e he)
theorem sim_part : ∀ e : Ex, e.Wf → Sim (flatE (nfE e)) (((partE 5 e).map nfE).flatMap flatE)
  | .empty, _ => Sim.refl _
  | .eps, _ => Sim.refl _
  | .cls s, _ => Sim.refl _
  | .star a, _ => by simp [partE]; exact Sim.refl _
  | .seq a b, _ => by simp [partE]; exact Sim.refl _
  | .alt a b, h => by
    have ha := sim_part a h.1
    have hb := sim_part b h.2
    have e : partE 5 (.alt a b) = partE 5 a ++ partE 5 b := by simp [partE]
    have hw : Ex.Wfs [nfE a, nfE b] := fun x hx => by
      simp at hx
      rcases hx with rfl | rfl
      · exact nf_wf a h.1
      · exact nf_wf b h.2
    have hn : ∀ x ∈ [nfE a, nfE b], NF x := fun x hx => by
      simp at hx
      rcases hx with rfl | rfl
      · exact nf_nf a
      · exact nf_nf b
    rw [e, List.map_append, List.flatMap_append]
    show Sim (flatE (altE [nfE a, nfE b])) _
    rw [flat_alt hn]
    refine (sim_can (flats_wf hw)).trans ?_
    have e2 : [nfE a, nfE b].flatMap flatE = flatE (nfE a) ++ flatE (nfE b) := by simp
    rw [e2]
    exact ha.append hb
theorem sim_parts {l : List Ex} (h : Ex.Wfs l) : Sim ((l.map nfE).flatMap flatE) (((partL 5 l).map nfE).flatMap flatE) := by
  induction l with
  | nil => exact Sim.refl _
  | cons e l ih =>
    have e1 : partL 5 (e :: l) = partE 5 e ++ partL 5 l := rfl
    rw [e1, List.map_append, List.flatMap_append, List.map_cons, List.flatMap_cons]
    exact (sim_part e (h e (by simp))).append (ih fun x hx => h x (List.mem_cons_of_mem _ hx))
/-- normal of an Alt, as the landed code has it. -/
theorem alt_whole {l : List Ex} (h : Ex.Wfs l) : altE ((partL 5 l).map nfE) = altE (l.map nfE) := by
  unfold altE
  rw [(sim_parts h).can]
theorem alt_node {a b : Ex} (h : (Ex.alt a b).Wf) : altE ((partL 5 [a, b]).map nfE) = nfE (.alt a b) := by
  rw [alt_whole fun x hx => by
    simp at hx
    rcases hx with rfl | rfl
    · exact h.1
    · exact h.2]
  rfl
end Go.Proofs.YtfmdcnfniimkoaaGreat
/- quillref07's Of, fits, Null, Void. -/
namespace Go.Proofs.YtfmdcnfniimkoaaGreat
open Go.RowKit
theorem Ex.size_pos (e : Ex) : 0 < e.size := by cases e <;> simp only [Ex.size] <;> omega
theorem rx_form (e : Ex) : ∃ k s ks, e.rx = .node k s ks := by cases e <;> exact ⟨_, _, _, rfl⟩
set_option maxHeartbeats 4000000 in
theorem ref7nul {ok : Nat → Prop} (N : Nat) : ∀ (e : Ex), e.size ≤ N → ∀ (v : Value) (w : World), ReAt ok w v e.rx →
    Calls Tryz.prog 48 #[v] w fun x w' => x = .returned (.bool e.nul) ∧ Below w.heap.size w w' := by
  induction N with
  | zero => intro e hN; have := e.size_pos; omega
  | succ N ih =>
    intro e hN v w hR
    cases e with
    | empty =>
      obtain ⟨_, _, al, cap, rfl, _, _, hrow⟩ := hR
      simp only [Ws.nil]
      rw [show (((1 : Nat) : Int)) = 1 from rfl, show (((0 : Nat) : Int)) = 0 from rfl]
      clear hrow
      go_enter Tryz.func48, Tryz.ntmps48
      go_wp2
      go_ret
      exact ⟨rfl, (Below.refl _ w).alloc (Nat.le_refl _) _⟩
    | eps =>
      obtain ⟨_, _, al, cap, rfl, _, _, hrow⟩ := hR
      simp only [Ws.nil]
      rw [show (((2 : Nat) : Int)) = 2 from rfl, show (((0 : Nat) : Int)) = 0 from rfl]
      clear hrow
      go_enter Tryz.func48, Tryz.ntmps48
      go_wp2
      go_ret
      exact ⟨rfl, (Below.refl _ w).alloc (Nat.le_refl _) _⟩
    | cls s =>
      obtain ⟨_, _, al, cap, rfl, _, _, hrow⟩ := hR
      obtain ⟨sa, sb, sc, sd⟩ := s
      rw [show (((3 : Nat) : Int)) = 3 from rfl]
      clear hrow
      go_enter Tryz.func48, Tryz.ntmps48
      go_wp2
      go_ret
      exact ⟨rfl, (Below.refl _ w).alloc (Nat.le_refl _) _⟩
    | seq a b =>
      have hR' := hR
      obtain ⟨_, _, al, cap, rfl, hcap, _, hrow⟩ := hR
      obtain ⟨bk, off, rfl, hlt, hn0⟩ := hrow.kid (i := 0) (by simp)
      obtain ⟨bk', off', e', hlt', hn1⟩ := hrow.kid (i := 1) (by simp)
      simp at e'
      obtain ⟨rfl, rfl⟩ := e'
      simp only [List.getElem_cons_zero, List.getElem_cons_succ] at hn0 hn1
      have hcap2 : 2 ≤ cap := by simpa using hcap
      obtain ⟨ka, ⟨sa, sb, sc, sd⟩, ksa, hsa⟩ := rx_form a
      obtain ⟨kb, ⟨ta, tb, tc, td⟩, ksb, hsb⟩ := rx_form b
      have ha : ∀ v w, ReAt ok w v a.rx → Calls Tryz.prog 48 #[v] w fun e w' => e = .returned (.bool a.nul) ∧ Below w.heap.size w w' := fun v w h => ih a (by simp only [Ex.size] at hN; omega) v w h
      have hb : ∀ v w, ReAt ok w v b.rx → Calls Tryz.prog 48 #[v] w fun e w' => e = .returned (.bool b.nul) ∧ Below w.heap.size w w' := fun v w h => ih b (by simp only [Ex.size] at hN; omega) v w h
      rw [hsa] at hn0 ha
      rw [hsb] at hn1 hb
      have HA := Lib.hid ha
      have HB := Lib.hid hb
      have HN0 := Lib.hid hn0
      have HN1 := Lib.hid hn1
      show Calls Tryz.prog 48 _ w fun e w' => e = .returned (.bool (a.nul && b.nul)) ∧ Below w.heap.size w w'
      generalize a.nul = na at *
      generalize b.nul = nb at *
      simp only [Ws.nil]
      rw [show (((4 : Nat) : Int)) = 4 from rfl, show (((0 : Nat) : Int)) = 0 from rfl]
      have hb0 := (Below.refl _ w).alloc (Nat.le_refl _) (.cells #[.int .u8 4, .int .u64 0, .int .u64 0, .int .u64 0, .int .u64 0, .slice (some ⟨bk, off, none⟩) 2 cap] 27)
      obtain ⟨al0, cap0, ⟨c0, c1, c2, c3, c4, c5⟩, hre0⟩ := HN0.out.read
      have HRE0 := Lib.hid (hre0.below hb0)
      have HB0 := Lib.hid hb0
      have HX := Lib.hid (blk_new w (.cells #[.int .u8 4, .int .u64 0, .int .u64 0, .int .u64 0, .int .u64 0, .slice (some ⟨bk, off, none⟩) 2 cap] 27))
      simp only [Nat.zero_mul, Nat.add_zero] at c0 c1 c2 c3 c4 c5
      clear hrow hn0 hn1 ha hb hR' hcap hre0 hb0 hsa hsb
      go_enter Tryz.func48, Tryz.ntmps48
      go_wp2_with fail
      refine (HA.out _ _ HRE0.out).mono ?_
      rintro e w1 ⟨rfl, hb1⟩
      have hbw := HB0.out.trans (hb1.mono HB0.out.size)
      have hx1 := (hb1.block w.heap.size (by simp)).trans HX.out
      obtain ⟨x0, x1, x2, x3, x4, x5, -⟩ := cellsR hx1
      obtain ⟨al1, cap1, ⟨g0, g1, g2, g3, g4, g5⟩, hre1⟩ := (NodeAt.below hbw _ hlt HN1.out).read
      have HRE1 := Lib.hid hre1
      simp only [Nat.one_mul] at g0 g1 g2 g3 g4 g5
      clear c0 c1 c2 c3 c4 c5 hb1 hre1 hx1
      cases na with
      | false =>
        go_wp2
        go_ret
        exact ⟨by simp, hbw⟩
      | true =>
        go_wp2_with fail
        refine (HB.out _ _ HRE1.out).mono ?_
        rintro e w2 ⟨rfl, hb2⟩
        go_wp2
        go_ret
        exact ⟨by simp, hbw.trans (hb2.mono hbw.size)⟩
    | alt a b =>
      have hR' := hR
      obtain ⟨_, _, al, cap, rfl, hcap, _, hrow⟩ := hR
      obtain ⟨bk, off, rfl, hlt, hn0⟩ := hrow.kid (i := 0) (by simp)
      obtain ⟨bk', off', e', hlt', hn1⟩ := hrow.kid (i := 1) (by simp)
      simp at e'
      obtain ⟨rfl, rfl⟩ := e'
      simp only [List.getElem_cons_zero, List.getElem_cons_succ] at hn0 hn1
      have hcap2 : 2 ≤ cap := by simpa using hcap
      obtain ⟨ka, ⟨sa, sb, sc, sd⟩, ksa, hsa⟩ := rx_form a
      obtain ⟨kb, ⟨ta, tb, tc, td⟩, ksb, hsb⟩ := rx_form b
      have ha : ∀ v w, ReAt ok w v a.rx → Calls Tryz.prog 48 #[v] w fun e w' => e = .returned (.bool a.nul) ∧ Below w.heap.size w w' := fun v w h => ih a (by simp only [Ex.size] at hN; omega) v w h
      have hb : ∀ v w, ReAt ok w v b.rx → Calls Tryz.prog 48 #[v] w fun e w' => e = .returned (.bool b.nul) ∧ Below w.heap.size w w' := fun v w h => ih b (by simp only [Ex.size] at hN; omega) v w h
      rw [hsa] at hn0 ha
      rw [hsb] at hn1 hb
      have HA := Lib.hid ha
      have HB := Lib.hid hb
      have HN0 := Lib.hid hn0
      have HN1 := Lib.hid hn1
      show Calls Tryz.prog 48 _ w fun e w' => e = .returned (.bool (a.nul || b.nul)) ∧ Below w.heap.size w w'
      generalize a.nul = na at *
      generalize b.nul = nb at *
      simp only [Ws.nil]
      rw [show (((5 : Nat) : Int)) = 5 from rfl, show (((0 : Nat) : Int)) = 0 from rfl]
      have hb0 := (Below.refl _ w).alloc (Nat.le_refl _) (.cells #[.int .u8 5, .int .u64 0, .int .u64 0, .int .u64 0, .int .u64 0, .slice (some ⟨bk, off, none⟩) 2 cap] 27)
      obtain ⟨al0, cap0, ⟨c0, c1, c2, c3, c4, c5⟩, hre0⟩ := HN0.out.read
      have HRE0 := Lib.hid (hre0.below hb0)
      have HB0 := Lib.hid hb0
      have HX := Lib.hid (blk_new w (.cells #[.int .u8 5, .int .u64 0, .int .u64 0, .int .u64 0, .int .u64 0, .slice (some ⟨bk, off, none⟩) 2 cap] 27))
      simp only [Nat.zero_mul, Nat.add_zero] at c0 c1 c2 c3 c4 c5
      clear hrow hn0 hn1 ha hb hR' hcap hre0 hb0 hsa hsb
      go_enter Tryz.func48, Tryz.ntmps48
      go_wp2_with fail
      refine (HA.out _ _ HRE0.out).mono ?_
      rintro e w1 ⟨rfl, hb1⟩
      have hbw := HB0.out.trans (hb1.mono HB0.out.size)
      have hx1 := (hb1.block w.heap.size (by simp)).trans HX.out
      obtain ⟨x0, x1, x2, x3, x4, x5, -⟩ := cellsR hx1
      obtain ⟨al1, cap1, ⟨g0, g1, g2, g3, g4, g5⟩, hre1⟩ := (NodeAt.below hbw _ hlt HN1.out).read
      have HRE1 := Lib.hid hre1
      simp only [Nat.one_mul] at g0 g1 g2 g3 g4 g5
      clear c0 c1 c2 c3 c4 c5 hb1 hre1 hx1
      cases na with
      | true =>
        go_wp2
        go_ret
        exact ⟨by simp, hbw⟩
      | false =>
        go_wp2_with fail
        refine (HB.out _ _ HRE1.out).mono ?_
        rintro e w2 ⟨rfl, hb2⟩
        go_wp2
        go_ret
        exact ⟨by simp, hbw.trans (hb2.mono hbw.size)⟩
    | star a =>
      obtain ⟨_, _, al, cap, rfl, _, _, hrow⟩ := hR
      simp only [Ws.nil]
      rw [show (((6 : Nat) : Int)) = 6 from rfl, show (((0 : Nat) : Int)) = 0 from rfl]
      clear hrow
      go_enter Tryz.func48, Tryz.ntmps48
      go_wp2
      go_ret
      exact ⟨rfl, (Below.refl _ w).alloc (Nat.le_refl _) _⟩
set_option maxHeartbeats 4000000 in
theorem ref7fit {ok : Nat → Prop} (N : Nat) : ∀ (e : Ex), e.size ≤ N → ∀ (v : Value) (w : World), ReAt ok w v e.rx →
    Calls Tryz.prog 51 #[v] w fun x w' => x = .returned (.bool e.fit) ∧ Below w.heap.size w w' := by
  induction N with
  | zero => intro e hN; have := e.size_pos; omega
  | succ N ih =>
    intro e hN v w hR
    cases e with
    | empty =>
      obtain ⟨_, _, al, cap, rfl, _, _, hrow⟩ := hR
      simp only [Ws.nil]
      rw [show (((1 : Nat) : Int)) = 1 from rfl, show (((0 : Nat) : Int)) = 0 from rfl]
      clear hrow
      go_enter Tryz.func51, Tryz.ntmps51
      go_wp2
      go_ret
      exact ⟨rfl, (Below.refl _ w).alloc (Nat.le_refl _) _⟩
    | eps =>
      obtain ⟨_, _, al, cap, rfl, _, _, hrow⟩ := hR
      simp only [Ws.nil]
      rw [show (((2 : Nat) : Int)) = 2 from rfl, show (((0 : Nat) : Int)) = 0 from rfl]
      clear hrow
      go_enter Tryz.func51, Tryz.ntmps51
      go_wp2
      go_ret
      exact ⟨rfl, (Below.refl _ w).alloc (Nat.le_refl _) _⟩
    | cls s =>
      obtain ⟨_, _, al, cap, rfl, _, _, hrow⟩ := hR
      obtain ⟨sa, sb, sc, sd⟩ := s
      rw [show (((3 : Nat) : Int)) = 3 from rfl]
      clear hrow
      go_enter Tryz.func51, Tryz.ntmps51
      go_wp2
      go_ret
      exact ⟨rfl, (Below.refl _ w).alloc (Nat.le_refl _) _⟩
    | seq a b =>
      have hR' := hR
      obtain ⟨_, _, al, cap, rfl, hcap, _, hrow⟩ := hR
      obtain ⟨bk, off, rfl, hlt, hn0⟩ := hrow.kid (i := 0) (by simp)
      obtain ⟨bk', off', e', hlt', hn1⟩ := hrow.kid (i := 1) (by simp)
      simp at e'
      obtain ⟨rfl, rfl⟩ := e'
      simp only [List.getElem_cons_zero, List.getElem_cons_succ] at hn0 hn1
      have hcap2 : 2 ≤ cap := by simpa using hcap
      obtain ⟨ka, ⟨sa, sb, sc, sd⟩, ksa, hsa⟩ := rx_form a
      obtain ⟨kb, ⟨ta, tb, tc, td⟩, ksb, hsb⟩ := rx_form b
      have ha : ∀ v w, ReAt ok w v a.rx → Calls Tryz.prog 51 #[v] w fun e w' => e = .returned (.bool a.fit) ∧ Below w.heap.size w w' := fun v w h => ih a (by simp only [Ex.size] at hN; omega) v w h
      have hb : ∀ v w, ReAt ok w v b.rx → Calls Tryz.prog 51 #[v] w fun e w' => e = .returned (.bool b.fit) ∧ Below w.heap.size w w' := fun v w h => ih b (by simp only [Ex.size] at hN; omega) v w h
      rw [hsa] at hn0 ha
      rw [hsb] at hn1 hb
      have HA := Lib.hid ha
      have HB := Lib.hid hb
      have HN0 := Lib.hid hn0
      have HN1 := Lib.hid hn1
      show Calls Tryz.prog 51 _ w fun e w' => e = .returned (.bool (a.fit && b.fit)) ∧ Below w.heap.size w w'
      generalize a.fit = na at *
      generalize b.fit = nb at *
      simp only [Ws.nil]
      rw [show (((4 : Nat) : Int)) = 4 from rfl, show (((0 : Nat) : Int)) = 0 from rfl]
      have hb0 := (Below.refl _ w).alloc (Nat.le_refl _) (.cells #[.int .u8 4, .int .u64 0, .int .u64 0, .int .u64 0, .int .u64 0, .slice (some ⟨bk, off, none⟩) 2 cap] 27)
      obtain ⟨al0, cap0, ⟨c0, c1, c2, c3, c4, c5⟩, hre0⟩ := HN0.out.read
      have HRE0 := Lib.hid (hre0.below hb0)
      have HB0 := Lib.hid hb0
      have HX := Lib.hid (blk_new w (.cells #[.int .u8 4, .int .u64 0, .int .u64 0, .int .u64 0, .int .u64 0, .slice (some ⟨bk, off, none⟩) 2 cap] 27))
      simp only [Nat.zero_mul, Nat.add_zero] at c0 c1 c2 c3 c4 c5
      clear hrow hn0 hn1 ha hb hR' hcap hre0 hb0 hsa hsb
      go_enter Tryz.func51, Tryz.ntmps51
      go_wp2_with fail
      refine (HA.out _ _ HRE0.out).mono ?_
      rintro e w1 ⟨rfl, hb1⟩
      have hbw := HB0.out.trans (hb1.mono HB0.out.size)
      have hx1 := (hb1.block w.heap.size (by simp)).trans HX.out
      obtain ⟨x0, x1, x2, x3, x4, x5, -⟩ := cellsR hx1
      obtain ⟨al1, cap1, ⟨g0, g1, g2, g3, g4, g5⟩, hre1⟩ := (NodeAt.below hbw _ hlt HN1.out).read
      have HRE1 := Lib.hid hre1
      simp only [Nat.one_mul] at g0 g1 g2 g3 g4 g5
      clear c0 c1 c2 c3 c4 c5 hb1 hre1 hx1
      cases na with
      | false =>
        go_wp2
        go_ret
        exact ⟨by simp, hbw⟩
      | true =>
        go_wp2_with fail
        refine (HB.out _ _ HRE1.out).mono ?_
        rintro e w2 ⟨rfl, hb2⟩
        go_wp2
        go_ret
        exact ⟨by simp, hbw.trans (hb2.mono hbw.size)⟩
    | alt a b =>
      have hR' := hR
      obtain ⟨_, _, al, cap, rfl, hcap, _, hrow⟩ := hR
      obtain ⟨bk, off, rfl, hlt, hn0⟩ := hrow.kid (i := 0) (by simp)
      obtain ⟨bk', off', e', hlt', hn1⟩ := hrow.kid (i := 1) (by simp)
      simp at e'
      obtain ⟨rfl, rfl⟩ := e'
      simp only [List.getElem_cons_zero, List.getElem_cons_succ] at hn0 hn1
      have hcap2 : 2 ≤ cap := by simpa using hcap
      obtain ⟨ka, ⟨sa, sb, sc, sd⟩, ksa, hsa⟩ := rx_form a
      obtain ⟨kb, ⟨ta, tb, tc, td⟩, ksb, hsb⟩ := rx_form b
      have ha : ∀ v w, ReAt ok w v a.rx → Calls Tryz.prog 51 #[v] w fun e w' => e = .returned (.bool a.fit) ∧ Below w.heap.size w w' := fun v w h => ih a (by simp only [Ex.size] at hN; omega) v w h
      have hb : ∀ v w, ReAt ok w v b.rx → Calls Tryz.prog 51 #[v] w fun e w' => e = .returned (.bool b.fit) ∧ Below w.heap.size w w' := fun v w h => ih b (by simp only [Ex.size] at hN; omega) v w h
      rw [hsa] at hn0 ha
      rw [hsb] at hn1 hb
      have HA := Lib.hid ha
      have HB := Lib.hid hb
      have HN0 := Lib.hid hn0
      have HN1 := Lib.hid hn1
      show Calls Tryz.prog 51 _ w fun e w' => e = .returned (.bool (a.fit || b.fit)) ∧ Below w.heap.size w w'
      generalize a.fit = na at *
      generalize b.fit = nb at *
      simp only [Ws.nil]
      rw [show (((5 : Nat) : Int)) = 5 from rfl, show (((0 : Nat) : Int)) = 0 from rfl]
      have hb0 := (Below.refl _ w).alloc (Nat.le_refl _) (.cells #[.int .u8 5, .int .u64 0, .int .u64 0, .int .u64 0, .int .u64 0, .slice (some ⟨bk, off, none⟩) 2 cap] 27)
      obtain ⟨al0, cap0, ⟨c0, c1, c2, c3, c4, c5⟩, hre0⟩ := HN0.out.read
      have HRE0 := Lib.hid (hre0.below hb0)
      have HB0 := Lib.hid hb0
      have HX := Lib.hid (blk_new w (.cells #[.int .u8 5, .int .u64 0, .int .u64 0, .int .u64 0, .int .u64 0, .slice (some ⟨bk, off, none⟩) 2 cap] 27))
      simp only [Nat.zero_mul, Nat.add_zero] at c0 c1 c2 c3 c4 c5
      clear hrow hn0 hn1 ha hb hR' hcap hre0 hb0 hsa hsb
      go_enter Tryz.func51, Tryz.ntmps51
      go_wp2_with fail
      refine (HA.out _ _ HRE0.out).mono ?_
      rintro e w1 ⟨rfl, hb1⟩
      have hbw := HB0.out.trans (hb1.mono HB0.out.size)
      have hx1 := (hb1.block w.heap.size (by simp)).trans HX.out
      obtain ⟨x0, x1, x2, x3, x4, x5, -⟩ := cellsR hx1
      obtain ⟨al1, cap1, ⟨g0, g1, g2, g3, g4, g5⟩, hre1⟩ := (NodeAt.below hbw _ hlt HN1.out).read
      have HRE1 := Lib.hid hre1
      simp only [Nat.one_mul] at g0 g1 g2 g3 g4 g5
      clear c0 c1 c2 c3 c4 c5 hb1 hre1 hx1
      cases na with
      | true =>
        go_wp2
        go_ret
        exact ⟨by simp, hbw⟩
      | false =>
        go_wp2_with fail
        refine (HB.out _ _ HRE1.out).mono ?_
        rintro e w2 ⟨rfl, hb2⟩
        go_wp2
        go_ret
        exact ⟨by simp, hbw.trans (hb2.mono hbw.size)⟩
    | star a =>
      obtain ⟨_, _, al, cap, rfl, _, _, hrow⟩ := hR
      simp only [Ws.nil]
      rw [show (((6 : Nat) : Int)) = 6 from rfl, show (((0 : Nat) : Int)) = 0 from rfl]
      clear hrow
      go_enter Tryz.func51, Tryz.ntmps51
      go_wp2
      go_ret
      exact ⟨rfl, (Below.refl _ w).alloc (Nat.le_refl _) _⟩
end Go.Proofs.YtfmdcnfniimkoaaGreat
/- Results that hold expressions; expressions as values of a region; no program but its types. -/
namespace Go.Proofs.YtfmdcnfniimkoaaGreat
open Go.RowKit
abbrev zR : Obj := .cells #[.int .u8 0, .int .u64 0, .int .u64 0, .int .u64 0, .int .u64 0, .slice none 0 0] 27 (0, 0)
/-- No variable that was just made. -/
def NoZ (w : World) (b : Nat) : Prop := w.heap[b]? ≠ some zR
theorem noz_cell {w : World} {b off k : Nat} (h : w.cell? ⟨b, off, none⟩ = some (.int .u8 (k : Int))) (hk : k ≠ 0) : NoZ w b := by
  intro e
  rw [Lib.cell_of_heap e] at h
  match off with
  | 0 => simp at h; omega
  | 1 => simp at h
  | 2 => simp at h
  | 3 => simp at h
  | 4 => simp at h
  | 5 => simp at h
  | n + 6 => simp at h
theorem rx_some (e : Ex) : ∃ k s ks, e.rx = .node k s ks ∧ k ≠ 0 := by cases e <;> exact ⟨_, _, _, rfl, by decide⟩
theorem noz_node {ok : Nat → Prop} {w : World} {b off : Nat} {e : Ex} (h : NodeAt ok w b off e.rx) : NoZ w b := by
  obtain ⟨k, s, ks, he, hk⟩ := rx_some e
  rw [he] at h
  unfold NodeAt at h
  exact noz_cell h.2.2.1.1 hk
theorem node_noz {ok : Nat → Prop} {w : World} : ∀ (e : Ex) {b off : Nat}, NodeAt ok w b off e.rx → NodeAt (fun b => ok b ∧ NoZ w b) w b off e.rx
  | .empty, b, off, h => by
    unfold Ex.rx NodeAt at h ⊢
    obtain ⟨h0, hs, hc, al, cap, c5, h1, h2, h3⟩ := h
    exact ⟨h0, hs, hc, al, cap, c5, h1, h2, .inl rfl⟩
  | .eps, b, off, h => by
    unfold Ex.rx NodeAt at h ⊢
    obtain ⟨h0, hs, hc, al, cap, c5, h1, h2, h3⟩ := h
    exact ⟨h0, hs, hc, al, cap, c5, h1, h2, .inl rfl⟩
  | .cls s, b, off, h => by
    unfold Ex.rx NodeAt at h ⊢
    obtain ⟨h0, hs, hc, al, cap, c5, h1, h2, h3⟩ := h
    exact ⟨h0, hs, hc, al, cap, c5, h1, h2, .inl rfl⟩
  | .seq x y, b, off, h => by
    unfold Ex.rx NodeAt at h ⊢
    obtain ⟨h0, hs, hc, al, cap, c5, h1, h2, h3⟩ := h
    refine ⟨h0, hs, hc, al, cap, c5, h1, h2, ?_⟩
    rcases h3 with h3 | ⟨b', off', e1, e2, e3, e4⟩
    · cases h3
    · simp only [NodesAt] at e4 ⊢
      exact .inr ⟨b', off', e1, e2, ⟨e3, noz_node e4.1⟩, node_noz x e4.1, node_noz y e4.2.1, trivial⟩
  | .alt x y, b, off, h => by
    unfold Ex.rx NodeAt at h ⊢
    obtain ⟨h0, hs, hc, al, cap, c5, h1, h2, h3⟩ := h
    refine ⟨h0, hs, hc, al, cap, c5, h1, h2, ?_⟩
    rcases h3 with h3 | ⟨b', off', e1, e2, e3, e4⟩
    · cases h3
    · simp only [NodesAt] at e4 ⊢
      exact .inr ⟨b', off', e1, e2, ⟨e3, noz_node e4.1⟩, node_noz x e4.1, node_noz y e4.2.1, trivial⟩
  | .star x, b, off, h => by
    unfold Ex.rx NodeAt at h ⊢
    obtain ⟨h0, hs, hc, al, cap, c5, h1, h2, h3⟩ := h
    refine ⟨h0, hs, hc, al, cap, c5, h1, h2, ?_⟩
    rcases h3 with h3 | ⟨b', off', e1, e2, e3, e4⟩
    · cases h3
    · simp only [NodesAt] at e4 ⊢
      exact .inr ⟨b', off', e1, e2, ⟨e3, noz_node e4.1⟩, node_noz x e4.1, trivial⟩
theorem re_noz {ok : Nat → Prop} {w : World} {v : Value} (e : Ex) (h : ReAt ok w v e.rx) : ReAt (fun b => ok b ∧ NoZ w b) w v e.rx := by
  cases e with
  | empty => exact leaf_any _ h
  | eps => exact leaf_any _ h
  | cls s => exact leaf_any _ h
  | seq x y =>
    unfold Ex.rx ReAt RowAt at h ⊢
    obtain ⟨h0, hs, al, cap, e, h1, h2, h3⟩ := h
    refine ⟨h0, hs, al, cap, e, h1, h2, ?_⟩
    rcases h3 with h3 | ⟨b', off', e1, e2, e3, e4⟩
    · cases h3
    · simp only [NodesAt] at e4 ⊢
      exact .inr ⟨b', off', e1, e2, ⟨e3, noz_node e4.1⟩, node_noz x e4.1, node_noz y e4.2.1, trivial⟩
  | alt x y =>
    unfold Ex.rx ReAt RowAt at h ⊢
    obtain ⟨h0, hs, al, cap, e, h1, h2, h3⟩ := h
    refine ⟨h0, hs, al, cap, e, h1, h2, ?_⟩
    rcases h3 with h3 | ⟨b', off', e1, e2, e3, e4⟩
    · cases h3
    · simp only [NodesAt] at e4 ⊢
      exact .inr ⟨b', off', e1, e2, ⟨e3, noz_node e4.1⟩, node_noz x e4.1, node_noz y e4.2.1, trivial⟩
  | star x =>
    unfold Ex.rx ReAt RowAt at h ⊢
    obtain ⟨h0, hs, al, cap, e, h1, h2, h3⟩ := h
    refine ⟨h0, hs, al, cap, e, h1, h2, ?_⟩
    rcases h3 with h3 | ⟨b', off', e1, e2, e3, e4⟩
    · cases h3
    · simp only [NodesAt] at e4 ⊢
      exact .inr ⟨b', off', e1, e2, ⟨e3, noz_node e4.1⟩, node_noz x e4.1, trivial⟩
/-- An expression, put into a variable that was just made: no row of it lies there. -/
theorem put_ex {ok : Nat → Prop} {W : World} {g : Nat} {e : Ex} {y0 y1 y2 y3 y4 y5 : Value} (hz : W.heap[g]? = some zR) (h : ReAt ok W (.agg #[y0, y1, y2, y3, y4, y5]) e.rx) :
    (putW W g y0 y1 y2 y3 y4 y5).heap[g]? = some (.cells #[y0, y1, y2, y3, y4, y5] 27) ∧ ReAt ok (putW W g y0 y1 y2 y3 y4 y5) (.agg #[y0, y1, y2, y3, y4, y5]) e.rx := by
  refine ⟨putR hz _ _ _ _ _ _, (re_noz e h).go ⟨by simp [putW, World.setCell], fun b _ hb => ⟨hb.1, ?_⟩⟩⟩
  have hne : b ≠ g := fun e => hb.2 (by rw [e]; exact hz)
  simp [putW, World.setCell, Array.getElem?_modify, Ne.symm hne]
/-- Old blocks that were allowed, or new ones. -/
def okN (ok : Nat → Prop) (n b : Nat) : Prop := ok b ∨ n ≤ b
/-- An expression that a call has answered. -/
def ExV (ok : Nat → Prop) (e : Ex) (x : Value) (w : World) : Prop := ∃ (p0 p1 p2 p3 p4 : Int) (pl : Option Addr) (pn pc : Nat), x = .agg #[.int .u8 p0, .int .u64 p1, .int .u64 p2, .int .u64 p3, .int .u64 p4, .slice pl pn pc] ∧ ReAt ok w (.agg #[.int .u8 p0, .int .u64 p1, .int .u64 p2, .int .u64 p3, .int .u64 p4, .slice pl pn pc]) e.rx
theorem ExV.of {ok ok' : Nat → Prop} {w : World} {v : Value} {e : Ex} (h : ReAt ok w v e.rx) (hi : ∀ b, b < w.heap.size → ok b → ok' b) : ExV ok' e v w := by
  obtain ⟨p0, p1, p2, p3, p4, pl, pn, pc, rfl⟩ := cells_re h
  exact ⟨p0, p1, p2, p3, p4, pl, pn, pc, rfl, h.imp hi⟩
def SP.ex (ok : Nat → Prop) (e : Ex) : SP := ⟨ExV ok e, fun _ _ _ ⟨p0, p1, p2, p3, p4, pl, pn, pc, h1, h2⟩ hb => ⟨p0, p1, p2, p3, p4, pl, pn, pc, h1, h2.below hb⟩⟩
/-- What a call that makes an expression is to answer. -/
def ExPost (ok : Nat → Prop) (e : Ex) (w : World) (x : Ending) (w' : World) : Prop := ∃ v, x = .returned v ∧ ReAt (okN ok w.heap.size) w' v e.rx ∧ Below w.heap.size w w'
theorem ExPost.of_re {ok : Nat → Prop} {e : Ex} {r : Rx} {w w' : World} {x : Ending} (hr : e.rx = r) (h : RePost ok r w x w') : ExPost ok e w x w' := by
  subst hr
  exact h
/-- The end of a function whose result lies in a block that was just made. -/
theorem ret_ex {fn : Func} {a : Act} {ok : Nat → Prop} {w W : World} {k g : Nat} {e : Ex} {y0 y1 y2 y3 y4 y5 : Value} (hz : W.heap[g]? = some zR) (h : ReAt (okN ok w.heap.size) W (.agg #[y0, y1, y2, y3, y4, y5]) e.rx) (hb : Below w.heap.size w W) (hg : w.heap.size ≤ g)
    (hres : fn.results = #[.cell k 27]) (hslot : a.tmps.getD k undef = .pointer (some ⟨g, 0, none⟩)) (hd : a.defers = []) : bodyPost Tryz.prog fn (ExPost ok e w) .ret a (putW W g y0 y1 y2 y3 y4 y5) :=
  ret_re (put_ex hz h).1 hres hslot hd ⟨_, rfl, (put_ex hz h).2, putB hb hg _ _ _ _ _ _⟩
/-- Two expressions' blocks, and the result's. -/
def Bn2 (w W : World) (X Y : Obj) : Prop := W.heap[w.heap.size]? = some X ∧ W.heap[w.heap.size + 1]? = some Y ∧ W.heap[w.heap.size + 1 + 1]? = some zR ∧ Below w.heap.size w W
theorem Bn2.go {w W W' : World} {X Y : Obj} (h : Bn2 w W X Y) (hb : Below W.heap.size W W') : Bn2 w W' X Y :=
  ⟨(hb.block _ (Array.getElem?_eq_some_iff.1 h.1).1).trans h.1, (hb.block _ (Array.getElem?_eq_some_iff.1 h.2.1).1).trans h.2.1, (hb.block _ (Array.getElem?_eq_some_iff.1 h.2.2.1).1).trans h.2.2.1, h.2.2.2.trans (hb.mono h.2.2.2.size)⟩
theorem Bn2.new (w : World) (X Y : Obj) : Bn2 w (((w.alloc X).alloc Y).alloc zR) X Y :=
  ⟨(Below.heap_alloc _ _ _ (by simp; omega)).trans ((Below.heap_alloc _ _ _ (by simp)).trans (blk_new w _)), (Below.heap_alloc _ _ _ (by simp)).trans (blk_at _ _ (by simp)), blk_at _ _ (by simp), (((Below.refl _ w).alloc (Nat.le_refl _) _).alloc (by simp) _).alloc (by simp; omega) _⟩
/-- One expression's block, and the result's. -/
def Bn1 (w W : World) (X : Obj) : Prop := W.heap[w.heap.size]? = some X ∧ W.heap[w.heap.size + 1]? = some zR ∧ Below w.heap.size w W
theorem Bn1.go {w W W' : World} {X : Obj} (h : Bn1 w W X) (hb : Below W.heap.size W W') : Bn1 w W' X :=
  ⟨(hb.block _ (Array.getElem?_eq_some_iff.1 h.1).1).trans h.1, (hb.block _ (Array.getElem?_eq_some_iff.1 h.2.1).1).trans h.2.1, h.2.2.trans (hb.mono h.2.2.size)⟩
theorem Bn1.new (w : World) (X : Obj) : Bn1 w ((w.alloc X).alloc zR) X :=
  ⟨(Below.heap_alloc _ _ _ (by simp)).trans (blk_new w _), blk_at _ _ (by simp), ((Below.refl _ w).alloc (Nat.le_refl _) _).alloc (by simp) _⟩
theorem al3 (w : World) (X Y Z : Obj) : Below w.heap.size w (((w.alloc X).alloc Y).alloc Z) := (((Below.refl _ w).alloc (Nat.le_refl _) _).alloc (by simp) _).alloc (by simp; omega) _
theorem al2 (w : World) (X Y : Obj) : Below w.heap.size w ((w.alloc X).alloc Y) := ((Below.refl _ w).alloc (Nat.le_refl _) _).alloc (by simp) _
theorem six_keep {w x : World} {b off : Nat} {x0 x1 x2 x3 x4 x5 : Value} (hb : b < w.heap.size) (h : w.cell? ⟨b, off, none⟩ = some x0 ∧ w.cell? ⟨b, off + 1, none⟩ = some x1 ∧ w.cell? ⟨b, off + 2, none⟩ = some x2 ∧ w.cell? ⟨b, off + 3, none⟩ = some x3 ∧ w.cell? ⟨b, off + 4, none⟩ = some x4 ∧ w.cell? ⟨b, off + 5, none⟩ = some x5) (hx : Below w.heap.size w x) :
    x.cell? ⟨b, off, none⟩ = some x0 ∧ x.cell? ⟨b, off + 1, none⟩ = some x1 ∧ x.cell? ⟨b, off + 2, none⟩ = some x2 ∧ x.cell? ⟨b, off + 3, none⟩ = some x3 ∧ x.cell? ⟨b, off + 4, none⟩ = some x4 ∧ x.cell? ⟨b, off + 5, none⟩ = some x5 := by
  obtain ⟨d0, d1, d2, d3, d4, d5⟩ := h
  have e := fun o => hx.cell (p := ⟨b, o, none⟩) hb
  exact ⟨by rw [e]; exact d0, by rw [e]; exact d1, by rw [e]; exact d2, by rw [e]; exact d3, by rw [e]; exact d4, by rw [e]; exact d5⟩
theorem okN_in {ok : Nat → Prop} {n m k : Nat} (h : n ≤ m) : ∀ b, b < k → okN (okN ok n) m b → okN ok n b := by
  intro b _ hb
  rcases hb with hb | hb
  · exact hb
  · exact .inr (Nat.le_trans h hb)
/-- A row of two expressions. -/
def SP.two (a b : Ex) : SP := ⟨fun x w => ∃ g, x = .slice (some ⟨g, 0, none⟩) 2 2 ∧ RowAt (fun _ => True) w (some ⟨g, 0, none⟩) [a.rx, b.rx], fun _ _ _ ⟨g, h1, h2⟩ hb => ⟨g, h1, h2.below hb⟩⟩
end Go.Proofs.YtfmdcnfniimkoaaGreat
/- norm.eachPart, over a closure that is handed on. -/
namespace Go.Proofs.YtfmdcnfniimkoaaGreat
open Go.RowKit
theorem part_same {e : Ex} {k : Nat} {s : Ws} {ks : List Rx} (h : e.rx = .node k s ks) (hk : k = 4 ∨ k = 5) : ∃ a b : Ex, ks = [a.rx, b.rx] ∧ partE k e = partE k a ++ partE k b ∧ a.size + b.size < e.size ∧ partL k [a, b] = partE k e := by
  cases e with
  | empty => simp only [Ex.rx] at h; injection h with h1; omega
  | eps => simp only [Ex.rx] at h; injection h with h1; omega
  | cls s => simp only [Ex.rx] at h; injection h with h1; omega
  | star a => simp only [Ex.rx] at h; injection h with h1; omega
  | seq a b =>
    simp only [Ex.rx] at h
    injection h with h1 h2 h3
    subst h1
    exact ⟨a, b, h3.symm, by simp [partE], by simp only [Ex.size]; omega, by simp [partL, partE]⟩
  | alt a b =>
    simp only [Ex.rx] at h
    injection h with h1 h2 h3
    subst h1
    exact ⟨a, b, h3.symm, by simp [partE], by simp only [Ex.size]; omega, by simp [partL, partE]⟩
theorem part_other {e : Ex} {k k' : Nat} {s : Ws} {ks : List Rx} (h : e.rx = .node k' s ks) (hk : k' ≠ k) : partE k e = [e] := by
  cases e with
  | empty => rfl
  | eps => rfl
  | cls s => rfl
  | star a => rfl
  | seq a b =>
    simp only [Ex.rx] at h
    injection h with h1
    unfold partE
    rw [if_neg (by omega)]
  | alt a b =>
    simp only [Ex.rx] at h
    injection h with h1
    unfold partE
    rw [if_neg (by omega)]
theorem partL_take {k : Nat} {l : List Ex} {i : Nat} (h : i < l.length) : partL k (l.take (i + 1)) = partL k (l.take i) ++ partE k l[i] := by
  rw [List.take_succ_eq_append_getElem h, partL_append]
  simp [partL]
theorem part_take_le (k : Nat) (done l : List Ex) (i : Nat) : (done ++ partL k (l.take i)).length ≤ (done ++ partL k l).length := by
  have h := partL_append k (l.take i) (l.drop i)
  rw [List.take_append_drop] at h
  rw [h]
  simp only [List.length_append]
  omega
def Ex.sum (l : List Ex) : Nat := (l.map Ex.size).sum
theorem sum_get {l : List Ex} {i : Nat} (h : i < l.length) : l[i].size ≤ Ex.sum l := by
  induction l generalizing i with
  | nil => simp at h
  | cons e l ih =>
    cases i with
    | zero => simp [Ex.sum]
    | succ i => have := ih (i := i) (by simpa using h); simp [Ex.sum] at this ⊢; omega
/-- A row from a block below B, read in a later world. -/
theorem row_later {B : Nat} {w0 w : World} {al : Option Addr} {l : List Ex} (h : RowAt (Lo B) w0 al (l.map Ex.rx)) (hB : B ≤ w0.heap.size) (hb : Below B w0 w) : RowAt (Lo B) w al (l.map Ex.rx) := h.go (kept_lo hB hb)
theorem row_re {B : Nat} {w0 w : World} {v : Value} {r : Rx} (h : ReAt (Lo B) w0 v r) (hB : B ≤ w0.heap.size) (hb : Below B w0 w) : ReAt (Lo B) w v r := h.go (kept_lo hB hb)
/-- What a call of the closure must keep. -/
structure Tell (M B : Nat) (w0 : World) (fn : Nat) (cs : Array Value) (I : List Ex → World → Prop) (Pr : Ex → Prop) : Prop where
  enter : ∀ v w, Sem.run Tryz.prog (callFunc fn (#[v] ++ cs)) w = .ok (.enter fn (#[v] ++ cs)) w
  keep : ∀ done w w', I done w → Below w.heap.size w w' → I done w'
  step : ∀ done e v w, done.length < M → I done w → Below B w0 w → Pr e → ReAt (Lo B) w v e.rx → Calls Tryz.prog fn (#[v] ++ cs) w fun x w' => x = .returned (.tuple #[]) ∧ I (done ++ [e]) w' ∧ Below B w w'
def eachInv (k B : Nat) (I : List Ex → World → Prop) (done l : List Ex) (w : World) (y : Value) (wr : World) : Prop := ∃ i : Nat, i ≤ l.length ∧ y = .int .i64 i ∧ I (done ++ partL k (l.take i)) wr ∧ Below B w wr
set_option maxRecDepth 100000 in
set_option maxHeartbeats 8000000 in
theorem each_any {M k B : Nat} {w0 : World} {fn : Nat} {cs : Array Value} {I : List Ex → World → Prop} {Pr : Ex → Prop} (hk : k = 4 ∨ k = 5) (hB : B ≤ w0.heap.size) (hT : Tell M B w0 fn cs I Pr) (N : Nat) :
    ∀ (l : List Ex) (al : Option Addr) (cap : Nat) (done : List Ex) (w : World), Ex.sum l ≤ N → l.length < 2199023255552 → RowAt (Lo B) w0 al (l.map Ex.rx) → (∀ x ∈ partL k l, Pr x) → (done ++ partL k l).length ≤ M → I done w → Below B w0 w →
    Calls Tryz.prog 69 #[.int .u8 k, .slice al l.length cap, .func (.func fn) #[] cs] w fun x w' => x = .returned (.tuple #[]) ∧ I (done ++ partL k l) w' ∧ Below B w w' := by
  induction N with
  | zero =>
    intro l al cap done w hN hlen hR hP hM hI hb
    have hl : l = [] := by
      cases l with
      | nil => rfl
      | cons e l => have := e.size_pos; simp [Ex.sum] at hN; omega
    subst hl
    have HI := Lib.hid hI
    clear hI hR hP hT hM
    have q1 : ¬ (0 : Int) < ((([] : List Ex).length : Nat) : Int) := by simp
    rw [show ([] : List Ex).length = 0 from rfl]
    go_enter Tryz.func69, Tryz.ntmps69
    go_wp2
    go_loopw [10] (fun y wr => y = .int .i64 0 ∧ wr = w) (fun _ _ => 0)
    case atStart => exact ⟨rfl, rfl⟩
    case round =>
      obtain ⟨rfl, rfl⟩ := hrel
      go_wp2
      go_end0
      exact ⟨rfl, by simpa [partL] using HI.out, Below.refl _ _⟩
  | succ N ih =>
    intro l al cap done w hN hlen hR hP hM hI hb
    have HM := Lib.hid hM
    have IH := Lib.hid ih
    have HR := Lib.hid hR
    have HP := Lib.hid hP
    have HI := Lib.hid hI
    have HT := Lib.hid hT
    clear ih hR hP hI hT hM
    go_enter Tryz.func69, Tryz.ntmps69
    go_wp2
    go_loopw [10] (fun y wr => eachInv k B I done l w y wr) (fun y _ => l.length - (intOf y).toNat)
    case atStart => exact ⟨0, Nat.zero_le _, rfl, by simpa [partL] using HI.out, Below.refl _ _⟩
    case round =>
      obtain ⟨i, hi, rfl, hIr, hbr⟩ := hrel
      clear HI
      have HI := Lib.hid hIr
      clear hIr
      by_cases hlt : i < l.length
      · have hlt' : i < (l.map Ex.rx).length := by simpa using hlt
        obtain ⟨b, off, rfl, hblt, hbB, hnode⟩ := HR.out.kidOk hlt'
        rw [List.getElem_map] at hnode
        have hsz := sum_get hlt
        have HPT := Lib.hid (partL_take (k := k) hlt)
        have HML := Lib.hid (Nat.le_trans (part_take_le k done l (i + 1)) HM.out)
        rw [partL_take hlt] at HML
        have HPM := Lib.hid fun x (hx : x ∈ partE k l[i]) => HP.out x (List.mem_flatMap.2 ⟨l[i], List.getElem_mem hlt, hx⟩)
        generalize l[i] = e at *
        obtain ⟨ka, ⟨sa, sb, sc, sd⟩, ksa, hsa⟩ := rx_form e
        rw [hsa] at hnode
        obtain ⟨al', cap', ⟨c0w, c1w, c2w, c3w, c4w, c5w⟩, hre⟩ := hnode.read
        simp only at c0w c1w c2w c3w c4w c5w hre
        have hb0r : Below B w0 wr := hb.trans hbr
        have hblk := hb0r.block b hbB
        have e6 := fun o => World.cell?_of_block (w := w0) (w' := wr) (a := ⟨b, o, none⟩) hblk
        have c0 := (e6 _).trans c0w
        have c1 := (e6 _).trans c1w
        have c2 := (e6 _).trans c2w
        have c3 := (e6 _).trans c3w
        have c4 := (e6 _).trans c4w
        have c5 := (e6 _).trans c5w
        have q1 : (i : Int) < (l.length : Int) := by omega
        clear e6 c0w c1w c2w c3w c4w c5w hnode hblk
        by_cases hkk : ka = k
        · subst hkk
          have hkb : ((ka : Int) == (ka : Int)) = true := by simp
          obtain ⟨x, y, rfl, hpe, hsum, hpl⟩ := part_same hsa hk
          have hrow := hre.2.2
          obtain ⟨al2, cap2, heq, _, _, hrow⟩ := hrow
          simp at heq
          obtain ⟨rfl, rfl⟩ := heq
          have K := Lib.hid fun W (hW : Below wr.heap.size wr W) => IH.out [x, y] al' cap' (done ++ partL ka (l.take i)) W (by simp [Ex.sum]; omega) (by simp) hrow (by rw [hpl]; exact HPM.out) (by rw [hpl, List.append_assoc]; exact HML.out) (HT.out.keep _ _ _ HI.out hW) (hb0r.trans (hW.mono (Nat.le_trans hB hb0r.size)))
          rw [show ([x, y] : List Ex).length = 2 from rfl, hpl] at K
          have HB2 := Lib.hid fun w2 (W : World) (hW : Below wr.heap.size wr W) (h : Below B W w2) => (hbr.trans (hW.mono (Nat.le_trans hB hb0r.size))).trans h
          clear hrow hre hpe hpl hsum HPM
          go_wp2_with fail
          refine (K.out _ ((Below.refl _ wr).alloc (Nat.le_refl _) _)).mono ?_
          rintro z w2 ⟨rfl, hI2, hb2⟩
          have H := Lib.hid (show eachInv ka B I done l w (.int .i64 (i + 1 : Nat)) w2 from ⟨i + 1, hlt, rfl, by rw [HPT.out, ← List.append_assoc]; exact hI2, HB2.out _ _ ((Below.refl _ wr).alloc (Nat.le_refl _) _) hb2⟩)
          clear hI2 hb2 K HB2
          go_wp2
          exact ⟨by simpa using H.out, by simp [intOf]; omega⟩
        · have hkb : ((ka : Int) == (k : Int)) = false := by simp; omega
          have hpo := part_other hsa hkk
          have K := Lib.hid fun W (hW : Below wr.heap.size wr W) => HT.out.step (done ++ partL k (l.take i)) e _ W (by have h := HML.out; rw [hpo, ← List.append_assoc, List.length_append] at h; exact h) (HT.out.keep _ _ _ HI.out hW) (hb0r.trans (hW.mono (Nat.le_trans hB hb0r.size))) (HPM.out e (by rw [hpo]; simp)) (by rw [hsa]; exact row_re hre hB (hb0r.trans (hW.mono (Nat.le_trans hB hb0r.size))))
          have HB2 := Lib.hid fun w2 (W : World) (hW : Below wr.heap.size wr W) (h : Below B W w2) => (hbr.trans (hW.mono (Nat.le_trans hB hb0r.size))).trans h
          rw [hpo] at HPT
          clear hre hpo HPM
          go_wp2_with fail
          rw [HT.out.enter]
          refine (K.out _ ((Below.refl _ wr).alloc (Nat.le_refl _) _)).mono ?_
          rintro z w2 ⟨rfl, hI2, hb2⟩
          have H := Lib.hid (show eachInv k B I done l w (.int .i64 (i + 1 : Nat)) w2 from ⟨i + 1, hlt, rfl, by rw [HPT.out, ← List.append_assoc]; exact hI2, HB2.out _ _ ((Below.refl _ wr).alloc (Nat.le_refl _) _) hb2⟩)
          clear hI2 hb2 K HB2
          go_wp2
          exact ⟨by simpa using H.out, by simp [intOf]; omega⟩
      · have he : l.take i = l := List.take_of_length_le (by omega)
        have q1 : ¬ (i : Int) < (l.length : Int) := by omega
        go_wp2
        go_end0
        exact ⟨rfl, by rw [← he]; exact HI.out, hbr⟩
end Go.Proofs.YtfmdcnfniimkoaaGreat
/- The form of layer 6, as a relation: what is read of a text, or the place that is refused (as what is left there); no program. -/
namespace Go.Proofs.YtfmdcnfniimkoaaGreat
/-- What is read, and what is left behind it; or what is left where it is refused. -/
inductive PR where
  | ok (e : Ex) (l : List UInt8)
  | bad (l : List UInt8)
inductive SR where
  | ok (b : Nat) (l : List UInt8)
  | bad (l : List UInt8)
/-- A hexadecimal digit's value. -/
def hexV (c : UInt8) : Option Nat := if 48 ≤ c.toNat ∧ c.toNat ≤ 57 then some (c.toNat - 48) else if 97 ≤ c.toNat ∧ c.toNat ≤ 102 then some (c.toNat - 87) else none
/-- A byte that is its own sign. -/
def ownB (c : UInt8) : Bool := !specB c.toNat
/-- A sign: the byte, and what is left. -/
def sgn : List UInt8 → SR
  | [] => .bad []
  | c :: l => if c = 92 then
      (match l with
      | [] => .bad []
      | d :: l1 => match hexV d with
        | none => .bad (d :: l1)
        | some x => match l1 with
          | [] => .bad []
          | d' :: l2 => match hexV d' with
            | none => .bad (d' :: l2)
            | some y => .ok (16 * x + y) l2)
    else if ownB c = true then .ok c.toNat l else .bad (c :: l)
def NotAt (c : UInt8) (l : List UInt8) : Prop := ∀ t, l ≠ c :: t
def ofS (s : Ws) : Ex := if sameW s Ws.nil = true then .empty else .cls s
def rngW (lo hi : Nat) : Ws := ofN (List.range' lo (hi + 1 - lo))
/-- Behind an opening square bracket, some having been read. -/
inductive PCls : Ws → List UInt8 → PR → Prop
  | done (out : Ws) (l : List UInt8) : PCls out (93 :: l) (.ok (ofS out) l)
  | bad1 {out : Ws} {l r : List UInt8} : NotAt 93 l → sgn l = .bad r → PCls out l (.bad r)
  | one {out : Ws} {l : List UInt8} {b : Nat} {l1 : List UInt8} {res : PR} : NotAt 93 l → sgn l = .ok b l1 → NotAt 45 l1 → PCls (out.join (rngW b b)) l1 res → PCls out l res
  | bad2 {out : Ws} {l : List UInt8} {b : Nat} {l2 r : List UInt8} : NotAt 93 l → sgn l = .ok b (45 :: l2) → sgn l2 = .bad r → PCls out l (.bad r)
  | less {out : Ws} {l : List UInt8} {b : Nat} {l2 : List UInt8} {b' : Nat} {l3 : List UInt8} : NotAt 93 l → sgn l = .ok b (45 :: l2) → sgn l2 = .ok b' l3 → b' < b → PCls out l (.bad l2)
  | range {out : Ws} {l : List UInt8} {b : Nat} {l2 : List UInt8} {b' : Nat} {l3 : List UInt8} {res : PR} : NotAt 93 l → sgn l = .ok b (45 :: l2) → sgn l2 = .ok b' l3 → b ≤ b' → PCls (out.join (rngW b b')) l3 res → PCls out l res
/-- Any number of stars. -/
def stars : Ex → List UInt8 → Ex × List UInt8
  | e, [] => (e, [])
  | e, c :: l => if c = 42 then stars (.star e) l else (e, c :: l)
/-- Does a part begin here? -/
def begB : List UInt8 → Bool
  | [] => false
  | c :: _ => decide (c = 46) || decide (c = 91) || decide (c = 40) || decide (c = 92) || ownB c
inductive Tg where
  | atom
  | row
  | alt
inductive PX : Tg → List UInt8 → PR → Prop
  | dot (l : List UInt8) : PX .atom (46 :: l) (.ok (.cls Ws.full) l)
  | cls {l : List UInt8} {res : PR} : PCls Ws.nil l res → PX .atom (91 :: l) res
  | eps (l : List UInt8) : PX .atom (40 :: 41 :: l) (.ok .eps l)
  | round {l : List UInt8} {e : Ex} {l1 : List UInt8} : NotAt 41 l → PX .alt l (.ok e (41 :: l1)) → PX .atom (40 :: l) (.ok e l1)
  | roundNo {l : List UInt8} {e : Ex} {l1 : List UInt8} : NotAt 41 l → PX .alt l (.ok e l1) → NotAt 41 l1 → PX .atom (40 :: l) (.bad l1)
  | roundBad {l r : List UInt8} : NotAt 41 l → PX .alt l (.bad r) → PX .atom (40 :: l) (.bad r)
  | sign {l : List UInt8} {b : Nat} {l1 : List UInt8} : NotAt 46 l → NotAt 91 l → NotAt 40 l → sgn l = .ok b l1 → PX .atom l (.ok (.cls (rngW b b)) l1)
  | signBad {l r : List UInt8} : NotAt 46 l → NotAt 91 l → NotAt 40 l → sgn l = .bad r → PX .atom l (.bad r)
  | rowBad {l r : List UInt8} : PX .atom l (.bad r) → PX .row l (.bad r)
  | rowOne {l : List UInt8} {a : Ex} {l1 : List UInt8} {e : Ex} {l2 : List UInt8} : PX .atom l (.ok a l1) → stars a l1 = (e, l2) → begB l2 = false → PX .row l (.ok e l2)
  | rowMore {l : List UInt8} {a : Ex} {l1 : List UInt8} {p : Ex} {l2 : List UInt8} {e : Ex} {l3 : List UInt8} : PX .atom l (.ok a l1) → stars a l1 = (p, l2) → begB l2 = true → PX .row l2 (.ok e l3) → PX .row l (.ok (.seq p e) l3)
  | rowMoreBad {l : List UInt8} {a : Ex} {l1 : List UInt8} {p : Ex} {l2 r : List UInt8} : PX .atom l (.ok a l1) → stars a l1 = (p, l2) → begB l2 = true → PX .row l2 (.bad r) → PX .row l (.bad r)
  | altBad {l r : List UInt8} : PX .row l (.bad r) → PX .alt l (.bad r)
  | altOne {l : List UInt8} {e : Ex} {l1 : List UInt8} : PX .row l (.ok e l1) → NotAt 124 l1 → PX .alt l (.ok e l1)
  | altMore {l : List UInt8} {e : Ex} {l1 : List UInt8} {f : Ex} {l2 : List UInt8} : PX .row l (.ok e (124 :: l1)) → PX .alt l1 (.ok f l2) → PX .alt l (.ok (.alt e f) l2)
  | altMoreBad {l : List UInt8} {e : Ex} {l1 r : List UInt8} : PX .row l (.ok e (124 :: l1)) → PX .alt l1 (.bad r) → PX .alt l (.bad r)
theorem PCls.det {out : Ws} {l : List UInt8} {r1 : PR} (h : PCls out l r1) : ∀ {r2 : PR}, PCls out l r2 → r1 = r2 := by
  induction h with
  | done out l => intro r2 h2; cases h2 with
    | done => rfl
    | bad1 h _ => exact absurd rfl (h _)
    | one h _ _ _ => exact absurd rfl (h _)
    | bad2 h _ _ => exact absurd rfl (h _)
    | less h _ _ _ => exact absurd rfl (h _)
    | range h _ _ _ _ => exact absurd rfl (h _)
  | bad1 h1 h2 => intro r2 h; cases h with
    | done => exact absurd rfl (h1 _)
    | bad1 _ k => simp_all
    | one _ k _ _ => simp_all
    | bad2 _ k _ => simp_all
    | less _ k _ _ => simp_all
    | range _ k _ _ _ => simp_all
  | one h1 h2 h3 _ ih => intro r2 h; cases h with
    | done => exact absurd rfl (h1 _)
    | bad1 _ k => simp_all
    | one _ k _ q => rw [h2] at k; cases k; exact ih q
    | bad2 _ k _ => rw [h2] at k; cases k; exact absurd rfl (h3 _)
    | less _ k _ _ => rw [h2] at k; cases k; exact absurd rfl (h3 _)
    | range _ k _ _ _ => rw [h2] at k; cases k; exact absurd rfl (h3 _)
  | bad2 h1 h2 h3 => intro r2 h; cases h with
    | done => exact absurd rfl (h1 _)
    | bad1 _ k => simp_all
    | one _ k q _ => rw [h2] at k; cases k; exact absurd rfl (q _)
    | bad2 _ k q => rw [h2] at k; cases k; rw [h3] at q; cases q; rfl
    | less _ k q _ => rw [h2] at k; cases k; rw [h3] at q; cases q
    | range _ k q _ _ => rw [h2] at k; cases k; rw [h3] at q; cases q
  | less h1 h2 h3 h4 => intro r2 h; cases h with
    | done => exact absurd rfl (h1 _)
    | bad1 _ k => simp_all
    | one _ k q _ => rw [h2] at k; cases k; exact absurd rfl (q _)
    | bad2 _ k q => rw [h2] at k; cases k; rw [h3] at q; cases q
    | less _ k q _ => rw [h2] at k; cases k; rfl
    | range _ k q u _ => rw [h2] at k; cases k; rw [h3] at q; cases q; omega
  | range h1 h2 h3 h4 _ ih => intro r2 h; cases h with
    | done => exact absurd rfl (h1 _)
    | bad1 _ k => simp_all
    | one _ k q _ => rw [h2] at k; cases k; exact absurd rfl (q _)
    | bad2 _ k q => rw [h2] at k; cases k; rw [h3] at q; cases q
    | less _ k q u => rw [h2] at k; cases k; rw [h3] at q; cases q; omega
    | range _ k q u z => rw [h2] at k; cases k; rw [h3] at q; cases q; exact ih z
theorem sgn_46 (l : List UInt8) : sgn (46 :: l) = .bad (46 :: l) := by unfold sgn; simp; decide
theorem sgn_91 (l : List UInt8) : sgn (91 :: l) = .bad (91 :: l) := by unfold sgn; simp; decide
theorem sgn_40 (l : List UInt8) : sgn (40 :: l) = .bad (40 :: l) := by unfold sgn; simp; decide
theorem sgn_41 (l : List UInt8) : sgn (41 :: l) = .bad (41 :: l) := by unfold sgn; simp; decide
theorem sgn_93 (l : List UInt8) : sgn (93 :: l) = .bad (93 :: l) := by unfold sgn; simp; decide
theorem PX.det {t : Tg} {l : List UInt8} {r1 : PR} (h : PX t l r1) : ∀ {r2 : PR}, PX t l r2 → r1 = r2 := by
  induction h with
  | dot l => intro r2 h; cases h with
    | dot => rfl
    | sign k _ _ _ => exact absurd rfl (k _)
    | signBad k _ _ _ => exact absurd rfl (k _)
  | cls hc => intro r2 h; cases h with
    | cls k => exact hc.det k
    | sign _ k _ _ => exact absurd rfl (k _)
    | signBad _ k _ _ => exact absurd rfl (k _)
  | eps l => intro r2 h; cases h with
    | eps => rfl
    | round k _ => exact absurd rfl (k _)
    | roundNo k _ _ => exact absurd rfl (k _)
    | roundBad k _ => exact absurd rfl (k _)
    | sign _ _ k _ => exact absurd rfl (k _)
    | signBad _ _ k _ => exact absurd rfl (k _)
  | round h1 _ ih => intro r2 h; cases h with
    | eps => exact absurd rfl (h1 _)
    | round _ k => cases ih k; rfl
    | roundNo _ k q => cases ih k; exact absurd rfl (q _)
    | roundBad _ k => cases ih k
    | sign _ _ k _ => exact absurd rfl (k _)
    | signBad _ _ k _ => exact absurd rfl (k _)
  | roundNo h1 _ h3 ih => intro r2 h; cases h with
    | eps => exact absurd rfl (h1 _)
    | round _ k => cases ih k; exact absurd rfl (h3 _)
    | roundNo _ k q => cases ih k; rfl
    | roundBad _ k => cases ih k
    | sign _ _ k _ => exact absurd rfl (k _)
    | signBad _ _ k _ => exact absurd rfl (k _)
  | roundBad h1 _ ih => intro r2 h; cases h with
    | eps => exact absurd rfl (h1 _)
    | round _ k => cases ih k
    | roundNo _ k q => cases ih k
    | roundBad _ k => cases ih k; rfl
    | sign _ _ k _ => exact absurd rfl (k _)
    | signBad _ _ k _ => exact absurd rfl (k _)
  | sign h1 h2 h3 h4 => intro r2 h; cases h with
    | dot => exact absurd rfl (h1 _)
    | cls => exact absurd rfl (h2 _)
    | eps => exact absurd rfl (h3 _)
    | round => exact absurd rfl (h3 _)
    | roundNo => exact absurd rfl (h3 _)
    | roundBad => exact absurd rfl (h3 _)
    | sign _ _ _ k => rw [h4] at k; cases k; rfl
    | signBad _ _ _ k => rw [h4] at k; cases k
  | signBad h1 h2 h3 h4 => intro r2 h; cases h with
    | dot => exact absurd rfl (h1 _)
    | cls => exact absurd rfl (h2 _)
    | eps => exact absurd rfl (h3 _)
    | round => exact absurd rfl (h3 _)
    | roundNo => exact absurd rfl (h3 _)
    | roundBad => exact absurd rfl (h3 _)
    | sign _ _ _ k => rw [h4] at k; cases k
    | signBad _ _ _ k => rw [h4] at k; cases k; rfl
  | rowBad _ ih => intro r2 h; cases h with
    | rowBad k => cases ih k; rfl
    | rowOne k _ _ => cases ih k
    | rowMore k _ _ _ => cases ih k
    | rowMoreBad k _ _ _ => cases ih k
  | rowOne _ h2 h3 ih => intro r2 h; cases h with
    | rowBad k => cases ih k
    | rowOne k q _ => cases ih k; rw [h2] at q; cases q; rfl
    | rowMore k q u _ => cases ih k; rw [h2] at q; cases q; rw [h3] at u; cases u
    | rowMoreBad k q u _ => cases ih k; rw [h2] at q; cases q; rw [h3] at u; cases u
  | rowMore _ h2 h3 _ ih ih2 => intro r2 h; cases h with
    | rowBad k => cases ih k
    | rowOne k q u => cases ih k; rw [h2] at q; cases q; rw [h3] at u; cases u
    | rowMore k q _ z => cases ih k; rw [h2] at q; cases q; cases ih2 z; rfl
    | rowMoreBad k q _ z => cases ih k; rw [h2] at q; cases q; cases ih2 z
  | rowMoreBad _ h2 h3 _ ih ih2 => intro r2 h; cases h with
    | rowBad k => cases ih k
    | rowOne k q u => cases ih k; rw [h2] at q; cases q; rw [h3] at u; cases u
    | rowMore k q _ z => cases ih k; rw [h2] at q; cases q; cases ih2 z
    | rowMoreBad k q _ z => cases ih k; rw [h2] at q; cases q; cases ih2 z; rfl
  | altBad _ ih => intro r2 h; cases h with
    | altBad k => cases ih k; rfl
    | altOne k _ => cases ih k
    | altMore k _ => cases ih k
    | altMoreBad k _ => cases ih k
  | altOne _ h2 ih => intro r2 h; cases h with
    | altBad k => cases ih k
    | altOne k _ => cases ih k; rfl
    | altMore k _ => cases ih k; exact absurd rfl (h2 _)
    | altMoreBad k _ => cases ih k; exact absurd rfl (h2 _)
  | altMore _ _ ih ih2 => intro r2 h; cases h with
    | altBad k => cases ih k
    | altOne k q => cases ih k; exact absurd rfl (q _)
    | altMore k z => cases ih k; cases ih2 z; rfl
    | altMoreBad k z => cases ih k; cases ih2 z
  | altMoreBad _ _ ih ih2 => intro r2 h; cases h with
    | altBad k => cases ih k
    | altOne k q => cases ih k; exact absurd rfl (q _)
    | altMore k z => cases ih k; cases ih2 z
    | altMoreBad k z => cases ih k; cases ih2 z; rfl
end Go.Proofs.YtfmdcnfniimkoaaGreat
/- What is read is an expression that may be; how much is left; how many nodes; no program. -/
namespace Go.Proofs.YtfmdcnfniimkoaaGreat
theorem hexV_lt {c : UInt8} {x : Nat} (h : hexV c = some x) : x < 16 := by
  unfold hexV at h
  split at h
  · cases h; omega
  · split at h
    · cases h; omega
    · cases h
def SFact (l : List UInt8) : SR → Prop
  | .ok b l1 => b < 256 ∧ l1 <:+ l ∧ l1.length < l.length
  | .bad r => r <:+ l
theorem sgn_own (c : UInt8) (l : List UInt8) (h : c ≠ 92) : sgn (c :: l) = if ownB c = true then .ok c.toNat l else .bad (c :: l) := by
  simp only [sgn, if_neg h]
theorem sgn_92_nil : sgn [92] = .bad [] := rfl
theorem sgn_92_no {d : UInt8} (l : List UInt8) (h : hexV d = none) : sgn (92 :: d :: l) = .bad (d :: l) := by
  simp only [sgn, if_true, h]
theorem sgn_92_one {d : UInt8} {x : Nat} (h : hexV d = some x) : sgn [92, d] = .bad [] := by
  simp only [sgn, if_true, h]
theorem sgn_92_two {d d' : UInt8} {x : Nat} (l : List UInt8) (h : hexV d = some x) (h' : hexV d' = none) : sgn (92 :: d :: d' :: l) = .bad (d' :: l) := by
  simp only [sgn, if_true, h, h']
theorem sgn_92_yes {d d' : UInt8} {x y : Nat} (l : List UInt8) (h : hexV d = some x) (h' : hexV d' = some y) : sgn (92 :: d :: d' :: l) = .ok (16 * x + y) l := by
  simp only [sgn, if_true, h, h']
theorem sgn_fact (l : List UInt8) : SFact l (sgn l) := by
  match l with
  | [] => exact List.suffix_refl _
  | c :: l =>
    by_cases hc : c = 92
    · subst hc
      match l with
      | [] => rw [sgn_92_nil]; exact List.nil_suffix
      | [d] =>
        cases h1 : hexV d with
        | none => rw [sgn_92_no _ h1]; exact List.suffix_cons _ _
        | some x => rw [sgn_92_one h1]; exact List.nil_suffix
      | d :: d' :: l2 =>
        cases h1 : hexV d with
        | none => rw [sgn_92_no _ h1]; exact List.suffix_cons _ _
        | some x =>
          cases h2 : hexV d' with
          | none => rw [sgn_92_two _ h1 h2]; exact ⟨[92, d], rfl⟩
          | some y =>
            have a1 := hexV_lt h1
            have a2 := hexV_lt h2
            rw [sgn_92_yes _ h1 h2]
            exact ⟨by omega, ⟨[92, d, d'], rfl⟩, by simp only [List.length_cons]; omega⟩
    · rw [sgn_own c l hc]
      by_cases ho : ownB c = true
      · rw [if_pos ho]; exact ⟨c.toNat_lt, List.suffix_cons _ _, by simp⟩
      · rw [if_neg ho]; exact List.suffix_refl _
theorem sgn_ok {l l1 : List UInt8} {b : Nat} (h : sgn l = .ok b l1) : b < 256 ∧ l1 <:+ l ∧ l1.length < l.length := by
  have := sgn_fact l; rw [h] at this; exact this
theorem sgn_bad {l r : List UInt8} (h : sgn l = .bad r) : r <:+ l := by
  have := sgn_fact l; rw [h] at this; exact this
theorem rng_ok (a b : Nat) : (rngW a b).Ok := ofN_ok _
theorem rng_ne {b : Nat} (h : b < 256) : rngW b b ≠ Ws.nil := by
  intro e
  have h1 : (rngW b b).has b = true := by
    unfold rngW
    rw [has_ofN _ (by intro x hx; simp at hx; omega) b h]
    simp
  rw [e, Ws.has_nil] at h1
  cases h1
theorem ofS_wf {s : Ws} (h : s.Ok) : (ofS s).Wf ∧ (ofS s).size = 1 := by
  unfold ofS
  split
  · exact ⟨trivial, rfl⟩
  · rename_i hn
    exact ⟨⟨h, fun e => hn (sameW_iff.2 e)⟩, rfl⟩
/-- What holds of what is read. -/
def Fact (l : List UInt8) : PR → Prop
  | .ok e l1 => e.Wf ∧ l1 <:+ l ∧ l1.length < l.length ∧ e.size + 1 ≤ 2 * (l.length - l1.length)
  | .bad r => r <:+ l
theorem suffix_trans {a b c : List UInt8} (h : a <:+ b) (k : b <:+ c) : a <:+ c := h.trans k
theorem PCls.fact {out : Ws} {l : List UInt8} {r : PR} (h : PCls out l r) : out.Ok → Fact l r := by
  induction h with
  | done out l => exact fun ho => ⟨(ofS_wf ho).1, List.suffix_cons _ _, by simp, by rw [(ofS_wf ho).2]; simp only [List.length_cons]; omega⟩
  | bad1 _ h2 => exact fun _ => sgn_bad h2
  | @one out l b l1 res _ h2 _ _ ih =>
    intro ho
    obtain ⟨_, s1, s2⟩ := sgn_ok h2
    have k := ih (Ws.join_ok ho (rng_ok _ _))
    cases res with
    | ok e l' => exact ⟨k.1, k.2.1.trans s1, by have := k.2.2.1; omega, by have := k.2.2.2; omega⟩
    | bad r => exact List.IsSuffix.trans k s1
  | bad2 _ h2 h3 =>
    intro _
    obtain ⟨_, s1, _⟩ := sgn_ok h2
    exact (sgn_bad h3).trans ((List.suffix_cons _ _).trans s1)
  | less _ h2 _ _ =>
    intro _
    obtain ⟨_, s1, _⟩ := sgn_ok h2
    exact (List.suffix_cons _ _).trans s1
  | @range out l b l2 b' l3 res _ h2 h3 _ _ ih =>
    intro ho
    obtain ⟨_, s1, s2⟩ := sgn_ok h2
    obtain ⟨_, t1, t2⟩ := sgn_ok h3
    have k := ih (Ws.join_ok ho (rng_ok _ _))
    have q := t1.trans ((List.suffix_cons _ _).trans s1)
    simp only [List.length_cons] at s2
    cases res with
    | ok e l' => exact ⟨k.1, k.2.1.trans q, by have := k.2.2.1; omega, by have := k.2.2.2; omega⟩
    | bad r => exact List.IsSuffix.trans k q
theorem stars_fact : ∀ (l : List UInt8) (a e : Ex) (l' : List UInt8), stars a l = (e, l') → l' <:+ l ∧ (a.Wf → e.Wf) ∧ e.size = a.size + (l.length - l'.length)
  | [], a, e, l', h => by
    simp only [stars, Prod.mk.injEq] at h
    obtain ⟨rfl, rfl⟩ := h
    exact ⟨List.suffix_refl _, id, by simp⟩
  | c :: l, a, e, l', h => by
    unfold stars at h
    split at h
    · obtain ⟨h1, h2, h3⟩ := stars_fact l _ e l' h
      refine ⟨h1.trans (List.suffix_cons _ _), h2, ?_⟩
      have := h1.length_le
      rw [h3]; simp only [Ex.size, List.length_cons]; omega
    · simp only [Prod.mk.injEq] at h
      obtain ⟨rfl, rfl⟩ := h
      exact ⟨List.suffix_refl _, id, by simp⟩
theorem full_ne : Ws.full ≠ Ws.nil := by simp [Ws.full, Ws.nil]
theorem PX.fact {t : Tg} {l : List UInt8} {r : PR} (h : PX t l r) : Fact l r := by
  induction h with
  | dot l => exact ⟨⟨Ws.full_ok, full_ne⟩, List.suffix_cons _ _, by simp, by simp only [Ex.size, List.length_cons]; omega⟩
  | @cls l res hc =>
    have k := hc.fact Ws.nil_ok
    cases res with
    | ok e l' => exact ⟨k.1, k.2.1.trans (List.suffix_cons _ _), by have := k.2.2.1; simp only [List.length_cons]; omega, by have := k.2.2.2; simp only [List.length_cons]; omega⟩
    | bad r => exact List.IsSuffix.trans k (List.suffix_cons _ _)
  | eps l => exact ⟨trivial, ⟨[40, 41], rfl⟩, by simp only [List.length_cons]; omega, by simp only [Ex.size, List.length_cons]; omega⟩
  | round _ _ ih =>
    obtain ⟨k1, k2, k3, k4⟩ := ih
    simp only [List.length_cons] at k3 k4
    exact ⟨k1, (List.suffix_cons _ _).trans (k2.trans (List.suffix_cons _ _)), by simp only [List.length_cons]; omega, by simp only [List.length_cons]; omega⟩
  | roundNo _ _ _ ih => exact ih.2.1.trans (List.suffix_cons _ _)
  | roundBad _ _ ih => exact List.IsSuffix.trans ih (List.suffix_cons _ _)
  | sign _ _ _ h4 =>
    obtain ⟨s0, s1, s2⟩ := sgn_ok h4
    exact ⟨⟨rng_ok _ _, rng_ne s0⟩, s1, s2, by simp only [Ex.size]; omega⟩
  | signBad _ _ _ h4 => exact sgn_bad h4
  | rowBad _ ih => exact ih
  | rowOne _ h2 _ ih =>
    obtain ⟨k1, k2, k3, k4⟩ := ih
    obtain ⟨s1, s2, s3⟩ := stars_fact _ _ _ _ h2
    have := s1.length_le
    exact ⟨s2 k1, s1.trans k2, by omega, by omega⟩
  | rowMore _ h2 _ _ ih ih2 =>
    obtain ⟨k1, k2, k3, k4⟩ := ih
    obtain ⟨s1, s2, s3⟩ := stars_fact _ _ _ _ h2
    obtain ⟨q1, q2, q3, q4⟩ := ih2
    have := s1.length_le
    exact ⟨⟨s2 k1, q1⟩, q2.trans (s1.trans k2), by omega, by simp only [Ex.size]; omega⟩
  | rowMoreBad _ h2 _ _ ih ih2 =>
    obtain ⟨k1, k2, k3, k4⟩ := ih
    obtain ⟨s1, s2, s3⟩ := stars_fact _ _ _ _ h2
    exact List.IsSuffix.trans ih2 (s1.trans k2)
  | altBad _ ih => exact ih
  | altOne _ _ ih => exact ih
  | altMore _ _ ih ih2 =>
    obtain ⟨k1, k2, k3, k4⟩ := ih
    obtain ⟨q1, q2, q3, q4⟩ := ih2
    simp only [List.length_cons] at k3 k4
    exact ⟨⟨k1, q1⟩, q2.trans ((List.suffix_cons _ _).trans k2), by omega, by simp only [Ex.size]; omega⟩
  | altMoreBad _ _ ih ih2 => exact List.IsSuffix.trans ih2 ((List.suffix_cons _ _).trans ih.2.1)
end Go.Proofs.YtfmdcnfniimkoaaGreat
/- Texts from a place on; no program. -/
namespace Go.Proofs.YtfmdcnfniimkoaaGreat
/-- A text from a place on. -/
def tl (s : ByteArray) (i : Nat) : List UInt8 := s.data.toList.drop i
theorem tl_cons (s : ByteArray) (i : Nat) (h : i < s.size) : tl s i = s[i] :: tl s (i + 1) := by
  unfold tl
  have h' : i < s.data.toList.length := by simpa using h
  rw [List.drop_eq_getElem_cons h']
  rfl
theorem tl_nil (s : ByteArray) (i : Nat) (h : s.size ≤ i) : tl s i = [] := List.drop_eq_nil_of_le (by simpa using h)
theorem tl_len (s : ByteArray) (i : Nat) : (tl s i).length = s.size - i := by
  unfold tl
  rw [List.length_drop]; simp
theorem tl_zero (s : ByteArray) : tl s 0 = s.data.toList := rfl
theorem tl_suffix {s : ByteArray} {i : Nat} {l : List UInt8} (h : l <:+ tl s i) : l = tl s (s.size - l.length) ∧ l.length ≤ s.size := by
  have h1 : l <:+ s.data.toList := h.trans (List.drop_suffix _ _)
  have h2 : s.data.toList.length = s.size := by simp
  have h3 := h1.length_le
  rw [h2] at h3
  refine ⟨?_, h3⟩
  unfold tl
  rw [List.suffix_iff_eq_drop.1 h1, h2]
  rw [List.length_drop, h2]
  congr 1
  omega
def atB (c : UInt8) : List UInt8 → Bool
  | [] => false
  | d :: _ => decide (d = c)
theorem atB_no {c : UInt8} {l : List UInt8} (h : atB c l = false) : NotAt c l := by
  intro t e
  rw [e] at h
  simp [atB] at h
theorem atB_yes {c : UInt8} {l : List UInt8} (h : atB c l = true) : ∃ t, l = c :: t := by
  cases l with
  | nil => cases h
  | cons d t => simp [atB] at h; exact ⟨t, by rw [h]⟩
end Go.Proofs.YtfmdcnfniimkoaaGreat
/- There is always an answer; no program. -/
namespace Go.Proofs.YtfmdcnfniimkoaaGreat
theorem notAt_or (c : UInt8) (l : List UInt8) : NotAt c l ∨ ∃ t, l = c :: t := by
  cases l with
  | nil => exact .inl (fun t e => by cases e)
  | cons d t =>
    by_cases h : d = c
    · exact .inr ⟨t, by rw [h]⟩
    · exact .inl (fun u e => by simp at e; exact h e.1)
theorem PCls.total : ∀ (n : Nat) (out : Ws) (l : List UInt8), l.length ≤ n → ∃ r, PCls out l r
  | n, out, l, hn => by
    rcases notAt_or 93 l with h93 | ⟨t, rfl⟩
    · cases hs : sgn l with
      | bad r => exact ⟨_, .bad1 h93 hs⟩
      | ok b l1 =>
        have h1 := (sgn_ok hs).2.2
        match n, hn with
        | 0, hn => omega
        | n + 1, hn =>
          rcases notAt_or 45 l1 with h45 | ⟨l2, rfl⟩
          · obtain ⟨r, hr⟩ := PCls.total n (out.join (rngW b b)) l1 (by omega)
            exact ⟨r, .one h93 hs h45 hr⟩
          · cases hs2 : sgn l2 with
            | bad r => exact ⟨_, .bad2 h93 hs hs2⟩
            | ok b' l3 =>
              have h2 := (sgn_ok hs2).2.2
              simp only [List.length_cons] at h1
              by_cases hb : b' < b
              · exact ⟨_, .less h93 hs hs2 hb⟩
              · obtain ⟨r, hr⟩ := PCls.total n (out.join (rngW b b')) l3 (by omega)
                exact ⟨r, .range h93 hs hs2 (by omega) hr⟩
    · exact ⟨_, .done out t⟩
theorem PX.total : ∀ (n : Nat) (l : List UInt8), l.length ≤ n → (∃ r, PX .atom l r) ∧ (∃ r, PX .row l r) ∧ ∃ r, PX .alt l r
  | n, l, hn => by
    have hA : ∃ r, PX .atom l r := by
      rcases notAt_or 46 l with h46 | ⟨t, rfl⟩
      · rcases notAt_or 91 l with h91 | ⟨t, rfl⟩
        · rcases notAt_or 40 l with h40 | ⟨t, rfl⟩
          · cases hs : sgn l with
            | bad r => exact ⟨_, .signBad h46 h91 h40 hs⟩
            | ok b l1 => exact ⟨_, .sign h46 h91 h40 hs⟩
          · rcases notAt_or 41 t with h41 | ⟨u, rfl⟩
            · match n, hn with
              | 0, hn => simp at hn
              | n + 1, hn =>
                obtain ⟨r, hr⟩ := (PX.total n t (by simpa using hn)).2.2
                cases r with
                | bad r => exact ⟨_, .roundBad h41 hr⟩
                | ok e l1 =>
                  rcases notAt_or 41 l1 with k | ⟨u, rfl⟩
                  · exact ⟨_, .roundNo h41 hr k⟩
                  · exact ⟨_, .round h41 hr⟩
            · exact ⟨_, .eps u⟩
        · obtain ⟨r, hr⟩ := PCls.total _ Ws.nil t (Nat.le_refl _)
          exact ⟨r, .cls hr⟩
      · exact ⟨_, .dot t⟩
    have hR : ∃ r, PX .row l r := by
      obtain ⟨r, hr⟩ := hA
      cases r with
      | bad r => exact ⟨_, .rowBad hr⟩
      | ok a l1 =>
        have f := hr.fact
        cases hs : stars a l1 with
        | mk p l2 =>
          have hs' := (stars_fact _ _ _ _ hs).1.length_le
          cases hb : begB l2 with
          | false => exact ⟨_, .rowOne hr hs hb⟩
          | true =>
            match n, hn with
            | 0, hn => have := f.2.2.1; omega
            | n + 1, hn =>
              obtain ⟨q, hq⟩ := (PX.total n l2 (by have := f.2.2.1; omega)).2.1
              cases q with
              | bad r => exact ⟨_, .rowMoreBad hr hs hb hq⟩
              | ok e l3 => exact ⟨_, .rowMore hr hs hb hq⟩
    refine ⟨hA, hR, ?_⟩
    obtain ⟨r, hr⟩ := hR
    cases r with
    | bad r => exact ⟨_, .altBad hr⟩
    | ok e l1 =>
      have f := hr.fact
      rcases notAt_or 124 l1 with h | ⟨t, rfl⟩
      · exact ⟨_, .altOne hr h⟩
      · match n, hn with
        | 0, hn => have := f.2.2.1; omega
        | n + 1, hn =>
          obtain ⟨q, hq⟩ := (PX.total n t (by have := f.2.2.1; simp only [List.length_cons] at this; omega)).2.2
          cases q with
          | bad r => exact ⟨_, .altMoreBad hr hq⟩
          | ok g l3 => exact ⟨_, .altMore hr hq⟩
end Go.Proofs.YtfmdcnfniimkoaaGreat
/- How far a row, or an expression, has been read; no program. -/
namespace Go.Proofs.YtfmdcnfniimkoaaGreat
/-- Some behind one another, or one of some. -/
def foldE (f : Ex → Ex → Ex) : List Ex → Ex
  | [] => .eps
  | [e] => e
  | e :: e' :: l => f e (foldE f (e' :: l))
theorem foldE_snoc (f : Ex → Ex → Ex) : ∀ (ps : List Ex) (p e : Ex), foldE f (ps ++ [p] ++ [e]) = foldE f (ps ++ [f p e])
  | [], p, e => rfl
  | [q], p, e => rfl
  | q :: q' :: ps, p, e => by
    have ih := foldE_snoc f (q' :: ps) p e
    show f q (foldE f (q' :: ps ++ [p] ++ [e])) = f q (foldE f (q' :: ps ++ [f p e]))
    rw [ih]
/-- Of a row that began with l0 these parts have been read, and l is left. -/
def RowSt (l0 : List UInt8) (ps : List Ex) (l : List UInt8) : Prop :=
  ((ps = [] ∨ begB l = true) → (∀ e l', PX .row l (.ok e l') → PX .row l0 (.ok (foldE .seq (ps ++ [e])) l')) ∧ (∀ r, PX .row l (.bad r) → PX .row l0 (.bad r))) ∧
  (ps ≠ [] → begB l = false → PX .row l0 (.ok (foldE .seq ps) l))
theorem RowSt.start (l : List UInt8) : RowSt l [] l := ⟨fun _ => ⟨fun _ _ h => h, fun _ h => h⟩, fun h => absurd rfl h⟩
theorem RowSt.step {l0 l l1 l2 : List UInt8} {ps : List Ex} {a p : Ex} (h : RowSt l0 ps l) (hc : ps = [] ∨ begB l = true) (ha : PX .atom l (.ok a l1)) (hs : stars a l1 = (p, l2)) : RowSt l0 (ps ++ [p]) l2 := by
  obtain ⟨h1, h2⟩ := h.1 hc
  refine ⟨fun hc2 => ?_, fun _ hb => h1 _ _ (PX.rowOne ha hs hb)⟩
  have hb : begB l2 = true := by
    rcases hc2 with e | e
    · simp at e
    · exact e
  refine ⟨fun e l' he => ?_, fun r hr => h2 _ (PX.rowMoreBad ha hs hb hr)⟩
  rw [foldE_snoc]
  exact h1 _ _ (PX.rowMore ha hs hb he)
theorem RowSt.bad {l0 l r : List UInt8} {ps : List Ex} (h : RowSt l0 ps l) (hc : ps = [] ∨ begB l = true) (ha : PX .atom l (.bad r)) : PX .row l0 (.bad r) := (h.1 hc).2 _ (PX.rowBad ha)
/-- Of an expression that began with l0 these rows have been read, and l is behind a bar. -/
def AltSt (l0 : List UInt8) (ps : List Ex) (l : List UInt8) : Prop :=
  (∀ e l', PX .alt l (.ok e l') → PX .alt l0 (.ok (foldE .alt (ps ++ [e])) l')) ∧ (∀ r, PX .alt l (.bad r) → PX .alt l0 (.bad r))
theorem AltSt.start (l : List UInt8) : AltSt l [] l := ⟨fun _ _ h => h, fun _ h => h⟩
theorem AltSt.step {l0 l l1 : List UInt8} {ps : List Ex} {e : Ex} (h : AltSt l0 ps l) (hr : PX .row l (.ok e (124 :: l1))) : AltSt l0 (ps ++ [e]) l1 :=
  ⟨fun f l' hf => by rw [foldE_snoc]; exact h.1 _ _ (PX.altMore hr hf), fun r hb => h.2 _ (PX.altMoreBad hr hb)⟩
theorem AltSt.last {l0 l l1 : List UInt8} {ps : List Ex} {e : Ex} (h : AltSt l0 ps l) (hr : PX .row l (.ok e l1)) (hn : NotAt 124 l1) : PX .alt l0 (.ok (foldE .alt (ps ++ [e])) l1) := h.1 _ _ (PX.altOne hr hn)
theorem AltSt.bad {l0 l r : List UInt8} {ps : List Ex} (h : AltSt l0 ps l) (hr : PX .row l (.bad r)) : PX .alt l0 (.bad r) := h.2 _ (PX.altBad hr)
end Go.Proofs.YtfmdcnfniimkoaaGreat
/- What is shown is read as it was; what is read alone is read in round brackets; no program. -/
namespace Go.Proofs.YtfmdcnfniimkoaaGreat
theorem sign_spec : ∀ n : Fin 256, specB n.1 = true → hexV (hexD' (n.1 / 16)) = some (n.1 / 16) ∧ hexV (hexD' (n.1 % 16)) = some (n.1 % 16) := by decide +kernel
theorem sign_self : ∀ n : Fin 256, specB n.1 = false → UInt8.ofNat n.1 ≠ 92 ∧ ownB (UInt8.ofNat n.1) = true ∧ (UInt8.ofNat n.1).toNat = n.1 := by decide +kernel
theorem sgn_sign {n : Nat} (h : n < 256) (x : List UInt8) : sgn (signL n ++ x) = .ok n x := by
  unfold signL
  by_cases hs : specB n = true
  · obtain ⟨h1, h2⟩ := sign_spec ⟨n, h⟩ hs
    rw [if_pos hs]
    show sgn (92 :: _ :: _ :: x) = _
    rw [sgn_92_yes x h1 h2]
    simp only
    congr 1; omega
  · obtain ⟨h1, h2, h3⟩ := sign_self ⟨n, h⟩ (by simpa using hs)
    rw [if_neg hs]
    show sgn (_ :: x) = _
    rw [sgn_own _ _ h1, if_pos h2, h3]
theorem beg_sign {n : Nat} (h : n < 256) (x : List UInt8) : begB (signL n ++ x) = true := by
  unfold signL
  by_cases hs : specB n = true
  · rw [if_pos hs]; rfl
  · obtain ⟨h1, h2, h3⟩ := sign_self ⟨n, h⟩ (by simpa using hs)
    rw [if_neg hs]
    show begB (_ :: x) = true
    simp only [begB]
    rw [h2]; simp
theorem notAt_cons {c d : UInt8} {l : List UInt8} (h : d ≠ c) : NotAt c (d :: l) := by
  intro t e
  simp at e
  exact h e.1
theorem notAt_nil (c : UInt8) : NotAt c [] := by intro t e; cases e
theorem sign_notAt {n : Nat} (h : n < 256) (x : List UInt8) : NotAt 93 (signL n ++ x) ∧ NotAt 45 (signL n ++ x) ∧ NotAt 46 (signL n ++ x) ∧ NotAt 91 (signL n ++ x) ∧ NotAt 40 (signL n ++ x) ∧ NotAt 41 (signL n ++ x) := by
  obtain ⟨c, t, hc, h1, _, _, h4, h5, h6, h7⟩ := sign_start ⟨n, h⟩
  have h45 := (sign_head n h x).1
  have hc' : signL n = c :: t := hc
  rw [hc'] at h45 ⊢
  simp at h45
  exact ⟨notAt_cons h4, notAt_cons h45, notAt_cons h7, notAt_cons h6, notAt_cons h5, notAt_cons h1⟩
theorem textOf_notAt (l : List Nat) (hl : ∀ x ∈ l, x < 256) (x : List UInt8) : NotAt 45 (textOf l ++ 93 :: x) := by
  cases l with
  | nil => exact notAt_cons (by decide)
  | cons y t =>
    have h := textOf_head (y :: t) hl
    have hne : textOf (y :: t) ≠ [] := by
      rw [textOf_cons]
      intro e
      have h1 := (List.append_eq_nil_iff.1 e).1
      have h2 := signL_length y
      unfold segL at h1
      split at h1
      · rw [(List.append_eq_nil_iff.1 h1).1] at h2; simp at h2
      · split at h1
        · rw [(List.append_eq_nil_iff.1 h1).1] at h2; simp at h2
        · rw [h1] at h2; simp at h2
    cases hT : textOf (y :: t) with
    | nil => exact absurd hT hne
    | cons c u => rw [hT] at h; exact notAt_cons (by simpa using h)
theorem has_rng {a b : Nat} (hb : b < 256) (m : Nat) (hm : m < 256) : (rngW a b).has m = (decide (a ≤ m) && decide (m ≤ b)) := by
  unfold rngW
  rw [has_ofN _ (by intro x hx; simp at hx; omega) m hm]
  rw [Bool.eq_iff_iff]
  simp
  omega
theorem join_seg {out : Ws} (ho : out.Ok) (y r : Nat) (l : List Nat) (hr : r ≤ l.length) (hl : ∀ x ∈ y :: l, x < 256) (ht : l.take r = List.range' (y + 1) r) : (out.join (rngW y (y + r))).join (ofN (l.drop r)) = out.join (ofN (y :: l)) := by
  have hyr : y + r < 256 := by
    cases r with
    | zero => exact hl y (by simp)
    | succ k =>
      have : y + 1 + k ∈ l.take (k + 1) := by rw [ht]; simp
      have := hl _ (List.mem_cons_of_mem _ (List.mem_of_mem_take this))
      omega
  refine Ws.has_ext (Ws.join_ok (Ws.join_ok ho (rng_ok _ _)) (ofN_ok _)) (Ws.join_ok ho (ofN_ok _)) fun m hm => ?_
  rw [Ws.has_join, Ws.has_join, Ws.has_join, has_rng hyr m hm, has_ofN _ (fun x hx => hl x (List.mem_cons_of_mem _ (List.mem_of_mem_drop hx))) m hm, has_ofN _ hl m hm]
  have key : (y :: l).contains m = ((decide (y ≤ m) && decide (m ≤ y + r)) || (l.drop r).contains m) := by
    have e : l = List.range' (y + 1) r ++ l.drop r := by rw [← ht, List.take_append_drop]
    rw [Bool.eq_iff_iff]
    simp only [List.contains_eq_mem, decide_eq_true_eq, Bool.or_eq_true, Bool.and_eq_true, List.mem_cons]
    conv => lhs; rw [e]
    simp only [List.mem_append, List.mem_range'_1]
    constructor
    · rintro (h | h | h)
      · exact .inl ⟨by omega, by omega⟩
      · exact .inl ⟨by omega, by omega⟩
      · exact .inr h
    · rintro (⟨h1, h2⟩ | h)
      · by_cases h3 : m = y
        · exact .inl h3
        · exact .inr (.inl ⟨by omega, by omega⟩)
      · exact .inr (.inr h)
  rw [key, Bool.or_assoc]
theorem cls_text : ∀ (k : Nat) (l : List Nat) (out : Ws) (x : List UInt8), l.length ≤ k → out.Ok → (∀ y ∈ l, y < 256) → PCls out (textOf l ++ 93 :: x) (.ok (ofS (out.join (ofN l))) x)
  | k, [], out, x, _, ho, _ => by
    have e : out.join (ofN []) = out := by
      show out.join Ws.nil = out
      simp [Ws.join, Ws.nil]
    rw [textOf_nil, e]
    exact PCls.done out x
  | 0, y :: l, _, _, h, _, _ => by simp at h
  | k + 1, y :: l, out, x, h, ho, hl => by
    have hr := runFrom_le y l
    have ht := runFrom_take y l
    have hy : y < 256 := hl y (by simp)
    have hd : ∀ z ∈ l.drop (runFrom y l), z < 256 := fun z hz => hl z (List.mem_cons_of_mem _ (List.mem_of_mem_drop hz))
    have hseg := join_seg ho y (runFrom y l) l hr hl ht
    have hlt : y + runFrom y l < 256 := by
      generalize runFrom y l = r at *
      cases r with
      | zero => exact hy
      | succ k =>
        have : y + 1 + k ∈ l.take (k + 1) := by rw [ht]; simp
        have := hl _ (List.mem_cons_of_mem _ (List.mem_of_mem_take this))
        omega
    have ih := cls_text k (l.drop (runFrom y l)) (out.join (rngW y (y + runFrom y l))) x (by simp only [List.length_drop, List.length_cons] at h ⊢; omega) (Ws.join_ok ho (rng_ok _ _)) hd
    rw [hseg] at ih
    have hnot := textOf_notAt (l.drop (runFrom y l)) hd x
    rw [textOf_cons]
    generalize runFrom y l = r at *
    unfold segL
    by_cases h3 : 3 ≤ 1 + r
    · rw [if_pos h3]
      have e1 : y + (1 + r) - 1 = y + r := by omega
      rw [e1]
      have e2 : signL y ++ 45 :: signL (y + r) ++ textOf (l.drop r) ++ 93 :: x = signL y ++ (45 :: (signL (y + r) ++ (textOf (l.drop r) ++ 93 :: x))) := by simp
      rw [e2]
      exact PCls.range (sign_notAt hy _).1 (sgn_sign hy _) (sgn_sign hlt _) (by omega) ih
    · rw [if_neg h3]
      by_cases h2 : 1 + r = 2
      · rw [if_pos h2]
        have hr1 : r = 1 := by omega
        subst hr1
        have e2 : signL y ++ signL (y + 1) ++ textOf (l.drop 1) ++ 93 :: x = signL y ++ (signL (y + 1) ++ (textOf (l.drop 1) ++ 93 :: x)) := by simp
        rw [e2]
        have hj : (out.join (rngW y y)).join (rngW (y + 1) (y + 1)) = out.join (rngW y (y + 1)) := by
          refine Ws.has_ext (Ws.join_ok (Ws.join_ok ho (rng_ok _ _)) (rng_ok _ _)) (Ws.join_ok ho (rng_ok _ _)) fun m hm => ?_
          rw [Ws.has_join, Ws.has_join, Ws.has_join, has_rng hy m hm, has_rng hlt m hm, has_rng hlt m hm, Bool.or_assoc]
          congr 1
          rw [Bool.eq_iff_iff]
          simp
          omega
        rw [← hj] at ih
        refine PCls.one (sign_notAt hy _).1 (sgn_sign hy _) (sign_notAt hlt _).2.1 ?_
        exact PCls.one (sign_notAt hlt _).1 (sgn_sign hlt _) hnot ih
      · rw [if_neg h2]
        have hr0 : r = 0 := by omega
        subst hr0
        rw [List.append_assoc]
        exact PCls.one (sign_notAt hy _).1 (sgn_sign hy _) hnot ih
theorem ofS_ne {s : Ws} (h : s ≠ Ws.nil) : ofS s = .cls s := by
  unfold ofS
  rw [if_neg (fun e => h (sameW_iff.1 e))]
/-- A class's text is read as it. -/
theorem cls_read {s : Ws} (hs : s.Ok) (h : s ≠ Ws.nil) (x : List UInt8) : PX .atom (textW s ++ x) (.ok (.cls s) x) := by
  unfold textW
  split
  · rename_i h1
    rw [(full_of_length hs).1 h1]
    exact PX.dot x
  · split
    · rename_i h1
      obtain ⟨n, hn⟩ := List.length_eq_one_iff.1 h1
      have hlt : n < 256 := bytesN_lt s n (by rw [hn]; simp)
      have e : s = rngW n n := by
        rw [← of_bytesN hs, hn]
        show _ = ofN (List.range' n (n + 1 - n))
        rw [show n + 1 - n = 1 from by omega]; rfl
      rw [hn]
      obtain ⟨_, _, k1, k2, k3, _⟩ := sign_notAt hlt x
      have := PX.sign k1 k2 k3 (sgn_sign hlt x)
      rw [← e] at this
      exact this
    · have := cls_text _ (bytesN s) Ws.nil x (Nat.le_refl _) Ws.nil_ok (bytesN_lt s)
      rw [of_bytesN hs, show Ws.nil.join s = s from by simp [Ws.join, Ws.nil], ofS_ne h] at this
      have e : 91 :: (textOf (bytesN s) ++ [93]) ++ x = 91 :: (textOf (bytesN s) ++ 93 :: x) := by simp
      rw [e]
      exact PX.cls this
end Go.Proofs.YtfmdcnfniimkoaaGreat
/- The landed reader's levels: how far a text has been read with a row of open brackets; no program. -/
namespace Go.Proofs.YtfmdcnfniimkoaaGreat
structure Lv where
  rows : List Ex
  parts : List Ex
theorem stars_stop (p : Ex) {l : List UInt8} (h : NotAt 42 l) : stars p l = (p, l) := by
  cases l with
  | nil => rfl
  | cons c t =>
    have hc : ¬ c = 42 := fun e => h t (by rw [e])
    simp only [stars, if_neg hc]
theorem stars_42 (p : Ex) (l : List UInt8) : stars p (42 :: l) = stars (.star p) l := by simp only [stars, if_true]
theorem beg_not {l : List UInt8} (h : begB l = true) : NotAt 42 l ∧ NotAt 41 l ∧ NotAt 124 l := by
  refine ⟨fun t e => ?_, fun t e => ?_, fun t e => ?_⟩ <;> (subst e; revert h; simp only [begB]; decide)
theorem atom_beg {l l1 : List UInt8} {a : Ex} (h : PX .atom l (.ok a l1)) : begB l = true := by
  cases h with
  | dot => rfl
  | cls => rfl
  | eps => rfl
  | round => rfl
  | sign h1 h2 h3 h4 =>
    cases l with
    | nil => simp [sgn] at h4
    | cons c t =>
      by_cases hc : c = 92
      · subst hc; rfl
      · rw [sgn_own c t hc] at h4
        by_cases ho : ownB c = true
        · simp [begB, ho]
        · rw [if_neg ho] at h4; cases h4
/-- Of a row that began with m these parts have been read, the last one perhaps with more stars to come, and l is left. -/
def RowM (m : List UInt8) (parts : List Ex) (l : List UInt8) : Prop :=
  (parts = [] ∧ m = l) ∨ ∃ ps p a l' l1, parts = ps ++ [p] ∧ RowSt m ps l' ∧ (ps = [] ∨ begB l' = true) ∧ PX .atom l' (.ok a l1) ∧ stars a l1 = stars p l
theorem RowM.st {m l : List UInt8} {parts : List Ex} (h : RowM m parts l) (h42 : NotAt 42 l) : RowSt m parts l := by
  rcases h with ⟨rfl, rfl⟩ | ⟨ps, p, a, l', l1, rfl, hst, hc, ha, hs⟩
  · exact RowSt.start _
  · exact hst.step hc ha (by rw [hs, stars_stop p h42])
theorem RowM.add {m l l1 : List UInt8} {parts : List Ex} {a : Ex} (h : RowM m parts l) (ha : PX .atom l (.ok a l1)) : RowM m (parts ++ [a]) l1 :=
  .inr ⟨parts, a, a, l, l1, rfl, h.st (beg_not (atom_beg ha)).1, .inr (atom_beg ha), ha, rfl⟩
theorem RowM.star {m l : List UInt8} {ps : List Ex} {p : Ex} (h : RowM m (ps ++ [p]) (42 :: l)) : RowM m (ps ++ [.star p]) l := by
  rcases h with ⟨e, _⟩ | ⟨ps', p', a, l', l1, e, hst, hc, ha, hs⟩
  · simp at e
  · obtain ⟨rfl, e⟩ := List.append_inj' e rfl
    simp at e
    subst e
    exact .inr ⟨ps, _, a, l', l1, rfl, hst, hc, ha, by rw [hs, stars_42]⟩
def LvSt (m0 : List UInt8) (lv : Lv) (l : List UInt8) : Prop :=
  (∃ m, AltSt m0 lv.rows m ∧ RowM m lv.parts l ∧ (lv.rows = [] → m = m0)) ∧ ((lv.rows = [] ∧ lv.parts = []) ∨ NotAt 41 m0)
theorem LvSt.empty {m0 l : List UInt8} {lv : Lv} (h : LvSt m0 lv l) (hr : lv.rows = []) (hp : lv.parts = []) : m0 = l := by
  obtain ⟨⟨m, _, h2, h3⟩, _⟩ := h
  rcases h2 with ⟨_, e⟩ | ⟨ps, p, a, l', l1, e, _⟩
  · rw [← h3 hr, e]
  · rw [hp] at e; simp at e
theorem LvSt.start (l : List UInt8) : LvSt l ⟨[], []⟩ l := ⟨⟨l, AltSt.start _, .inl ⟨rfl, rfl⟩, fun _ => rfl⟩, .inl ⟨rfl, rfl⟩⟩
theorem LvSt.add {m0 l l1 : List UInt8} {lv : Lv} {a : Ex} (h : LvSt m0 lv l) (ha : PX .atom l (.ok a l1)) : LvSt m0 ⟨lv.rows, lv.parts ++ [a]⟩ l1 := by
  have h' := h
  obtain ⟨⟨m, h1, h2, h3⟩, h4⟩ := h
  refine ⟨⟨m, h1, h2.add ha, h3⟩, .inr ?_⟩
  rcases h4 with ⟨e1, e2⟩ | h4
  · rw [h'.empty e1 e2]; exact (beg_not (atom_beg ha)).2.1
  · exact h4
theorem LvSt.star {m0 l : List UInt8} {rows ps : List Ex} {p : Ex} (h : LvSt m0 ⟨rows, ps ++ [p]⟩ (42 :: l)) : LvSt m0 ⟨rows, ps ++ [.star p]⟩ l := by
  obtain ⟨⟨m, h1, h2, h3⟩, h4⟩ := h
  refine ⟨⟨m, h1, h2.star, h3⟩, .inr ?_⟩
  rcases h4 with ⟨_, e⟩ | h4
  · simp at e
  · exact h4
theorem LvSt.row {m0 l : List UInt8} {lv : Lv} (h : LvSt m0 lv l) (hp : lv.parts ≠ []) (h42 : NotAt 42 l) (hb : begB l = false) :
    NotAt 41 m0 ∧ ∃ m, AltSt m0 lv.rows m ∧ PX .row m (.ok (foldE .seq lv.parts) l) := by
  obtain ⟨⟨m, h1, h2, h3⟩, h4⟩ := h
  refine ⟨?_, m, h1, (h2.st h42).2 hp hb⟩
  rcases h4 with ⟨_, e⟩ | h4
  · exact absurd e hp
  · exact h4
theorem beg_124 (l : List UInt8) : begB (124 :: l) = false := by simp only [begB]; decide
theorem beg_41 (l : List UInt8) : begB (41 :: l) = false := by simp only [begB]; decide
theorem beg_42 (l : List UInt8) : begB (42 :: l) = false := by simp only [begB]; decide
theorem LvSt.bar {m0 l : List UInt8} {lv : Lv} (h : LvSt m0 lv (124 :: l)) (hp : lv.parts ≠ []) : LvSt m0 ⟨lv.rows ++ [foldE .seq lv.parts], []⟩ l := by
  obtain ⟨h4, m, h1, h2⟩ := h.row hp (notAt_cons (by decide)) (beg_124 l)
  exact ⟨⟨l, h1.step h2, .inl ⟨rfl, rfl⟩, fun e => by simp at e⟩, .inr h4⟩
theorem LvSt.done {m0 l : List UInt8} {lv : Lv} (h : LvSt m0 lv l) (hp : lv.parts ≠ []) (h42 : NotAt 42 l) (hb : begB l = false) (h124 : NotAt 124 l) : NotAt 41 m0 ∧ PX .alt m0 (.ok (foldE .alt (lv.rows ++ [foldE .seq lv.parts])) l) := by
  obtain ⟨h4, m, h1, h2⟩ := h.row hp h42 hb
  exact ⟨h4, h1.last h2 h124⟩
theorem LvSt.bad {m0 l r : List UInt8} {lv : Lv} (h : LvSt m0 lv l) (ha : PX .atom l (.bad r)) (hc : lv.parts = [] ∨ begB l = true) : PX .alt m0 (.bad r) := by
  obtain ⟨⟨m, h1, h2, h3⟩, h4⟩ := h
  rcases hc with hc | hc
  · rcases h2 with ⟨_, rfl⟩ | ⟨ps, p, a, l', l1, e, _⟩
    · exact h1.bad (PX.rowBad ha)
    · rw [hc] at e; simp at e
  · exact h1.bad ((h2.st (beg_not hc).1).bad (.inr hc) ha)
/-- The lower levels, bottom first; the top one. -/
inductive StkSt (l0 : List UInt8) : List Lv → Lv → List UInt8 → Prop
  | base {lv : Lv} {l : List UInt8} : LvSt l0 lv l → StkSt l0 [] lv l
  | push {low : List Lv} {lv lv' : Lv} {l m0 : List UInt8} : StkSt l0 low lv' (40 :: m0) → LvSt m0 lv l → StkSt l0 (low ++ [lv']) lv l
theorem StkSt.start (l : List UInt8) : StkSt l [] ⟨[], []⟩ l := .base (LvSt.start l)
theorem StkSt.open {l0 l : List UInt8} {low : List Lv} {lv : Lv} (h : StkSt l0 low lv (40 :: l)) : StkSt l0 (low ++ [lv]) ⟨[], []⟩ l := .push h (LvSt.start l)
theorem StkSt.turn {l0 l l' : List UInt8} {low : List Lv} {lv lv' : Lv} (h : StkSt l0 low lv l) (hi : ∀ m0, LvSt m0 lv l → LvSt m0 lv' l') : StkSt l0 low lv' l' := by
  cases h with
  | base h => exact .base (hi _ h)
  | push h1 h2 => exact .push h1 (hi _ h2)
theorem StkSt.add {l0 l l1 : List UInt8} {low : List Lv} {lv : Lv} {a : Ex} (h : StkSt l0 low lv l) (ha : PX .atom l (.ok a l1)) : StkSt l0 low ⟨lv.rows, lv.parts ++ [a]⟩ l1 := h.turn fun _ k => k.add ha
theorem StkSt.star {l0 l : List UInt8} {low : List Lv} {rows ps : List Ex} {p : Ex} (h : StkSt l0 low ⟨rows, ps ++ [p]⟩ (42 :: l)) : StkSt l0 low ⟨rows, ps ++ [.star p]⟩ l := h.turn fun _ k => k.star
theorem StkSt.bar {l0 l : List UInt8} {low : List Lv} {lv : Lv} (h : StkSt l0 low lv (124 :: l)) (hp : lv.parts ≠ []) : StkSt l0 low ⟨lv.rows ++ [foldE .seq lv.parts], []⟩ l := h.turn fun _ k => k.bar hp
theorem snoc_inj {α : Type} {a b : List α} {x y : α} (h : a ++ [x] = b ++ [y]) : a = b ∧ x = y := by
  obtain ⟨h1, h2⟩ := List.append_inj' h rfl
  simp at h2
  exact ⟨h1, h2⟩
theorem StkSt.pop {l0 l : List UInt8} {low : List Lv} {lv lv' : Lv} (h : StkSt l0 (low ++ [lv']) lv l) : ∃ m0, StkSt l0 low lv' (40 :: m0) ∧ LvSt m0 lv l := by
  generalize hq : low ++ [lv'] = q at h
  cases h with
  | base => simp at hq
  | push h1 h2 =>
    obtain ⟨rfl, rfl⟩ := snoc_inj hq
    exact ⟨_, h1, h2⟩
theorem StkSt.close {l0 l : List UInt8} {low : List Lv} {lv lv' : Lv} (h : StkSt l0 (low ++ [lv']) lv (41 :: l)) (hp : lv.parts ≠ []) : StkSt l0 low ⟨lv'.rows, lv'.parts ++ [foldE .alt (lv.rows ++ [foldE .seq lv.parts])]⟩ l := by
  obtain ⟨m0, h1, h2⟩ := h.pop
  obtain ⟨h3, h4⟩ := h2.done hp (notAt_cons (by decide)) (beg_41 l) (notAt_cons (by decide))
  exact h1.add (PX.round h3 h4)
theorem StkSt.closeE {l0 l : List UInt8} {low : List Lv} {lv lv' : Lv} (h : StkSt l0 (low ++ [lv']) lv (41 :: l)) (hr : lv.rows = []) (hp : lv.parts = []) : StkSt l0 low ⟨lv'.rows, lv'.parts ++ [.eps]⟩ l := by
  obtain ⟨m0, h1, h2⟩ := h.pop
  obtain rfl := h2.empty hr hp
  exact h1.add (PX.eps l)
theorem StkSt.atomBad {l0 l r : List UInt8} {low : List Lv} {lv : Lv} (h : StkSt l0 low lv l) : PX .atom l (.bad r) → (lv.parts = [] ∨ begB l = true) → (NotAt 41 l ∨ low = [] ∨ ¬(lv.rows = [] ∧ lv.parts = [])) → PX .alt l0 (.bad r) := by
  induction h with
  | base h => intro ha hc _; exact h.bad ha hc
  | @push low lv lv' l m0 h1 h2 ih =>
    intro ha hc hn
    have hb := h2.bad ha hc
    have h41 : NotAt 41 m0 := by
      rcases h2.2 with ⟨e1, e2⟩ | h4
      · rcases hn with hn | hn | hn
        · rw [h2.empty e1 e2]; exact hn
        · simp at hn
        · exact absurd ⟨e1, e2⟩ hn
      · exact h4
    exact ih (PX.roundBad h41 hb) (.inr rfl) (.inl (notAt_cons (by decide)))
/-- The text is refused at r. -/
def Ref (l0 r : List UInt8) : Prop := PX .alt l0 (.bad r) ∨ ∃ e, r ≠ [] ∧ PX .alt l0 (.ok e r)
theorem StkSt.ended {l0 l : List UInt8} {low : List Lv} {lv : Lv} (h : StkSt l0 low lv l) (hp : lv.parts ≠ []) (h42 : NotAt 42 l) (hb : begB l = false) (h124 : NotAt 124 l) (hl : (low = [] ∧ l ≠ []) ∨ (low ≠ [] ∧ NotAt 41 l)) : Ref l0 l := by
  cases h with
  | base h =>
    obtain ⟨_, h4⟩ := h.done hp h42 hb h124
    rcases hl with ⟨_, h5⟩ | ⟨h5, _⟩
    · exact .inr ⟨_, h5, h4⟩
    · exact absurd rfl h5
  | push h1 h2 =>
    obtain ⟨h3, h4⟩ := h2.done hp h42 hb h124
    rcases hl with ⟨h5, _⟩ | ⟨_, h5⟩
    · simp at h5
    · exact .inl (h1.atomBad (PX.roundNo h3 h4 h5) (.inr rfl) (.inl (notAt_cons (by decide))))
/-- What isn't a part's begin, nor a bar, a star or a closing bracket, is refused. -/
theorem StkSt.signBad {l0 l r : List UInt8} {low : List Lv} {lv : Lv} (h : StkSt l0 low lv l) (hne : l ≠ []) (h46 : NotAt 46 l) (h91 : NotAt 91 l) (h40 : NotAt 40 l) (h41 : NotAt 41 l) (h42 : NotAt 42 l) (h124 : NotAt 124 l) (hs : sgn l = .bad r) : Ref l0 r := by
  by_cases hc : lv.parts = [] ∨ begB l = true
  · exact .inl (h.atomBad (PX.signBad h46 h91 h40 hs) hc (.inl h41))
  · have h1 : lv.parts ≠ [] := fun e => hc (.inl e)
    have h2 : begB l = false := by
      cases hb : begB l with
      | false => rfl
      | true => exact absurd (.inr hb) hc
    have : r = l := by
      cases l with
      | nil => exact absurd rfl hne
      | cons c t =>
        have hc92 : c ≠ 92 := fun e => by subst e; cases h2
        rw [sgn_own c t hc92] at hs
        have ho : ¬ ownB c = true := fun e => by simp [begB, e] at h2
        rw [if_neg ho] at hs
        cases hs; rfl
    subst this
    refine h.ended h1 h42 h2 h124 ?_
    by_cases hl : low = []
    · exact .inl ⟨hl, hne⟩
    · exact .inr ⟨hl, h41⟩
theorem sgn_bad_cons (c : UInt8) (l : List UInt8) (h : c ≠ 92) (ho : ownB c = false) : sgn (c :: l) = .bad (c :: l) := by
  rw [sgn_own c l h, ho]; rfl
/-- A byte that needs something ahead of it, without it. -/
theorem StkSt.bare {l0 l : List UInt8} {low : List Lv} {lv : Lv} (h : StkSt l0 low lv l) (hp : lv.parts = []) (h46 : NotAt 46 l) (h91 : NotAt 91 l) (h40 : NotAt 40 l) (hs : sgn l = .bad l) (hn : NotAt 41 l ∨ low = [] ∨ lv.rows ≠ []) : Ref l0 l :=
  .inl (h.atomBad (PX.signBad h46 h91 h40 hs) (.inl hp) (by
    rcases hn with hn | hn | hn
    · exact .inl hn
    · exact .inr (.inl hn)
    · exact .inr (.inr fun e => hn e.1)))
end Go.Proofs.YtfmdcnfniimkoaaGreat
/- rex.Many and rex.Size. -/
namespace Go.Proofs.YtfmdcnfniimkoaaGreat
open Go.RowKit
/-- The world behind a Star that is made in a result block. -/
def manyW (w1 : World) (g : Nat) (x0 x1 x2 x3 x4 x5 : Value) : World :=
  (putW w1 g (.int .u8 6) (.int .u64 0) (.int .u64 0) (.int .u64 0) (.int .u64 0) (.slice (some ⟨w1.heap.size, 0, none⟩) 1 1)).alloc (.cells #[x0, x1, x2, x3, x4, x5] 27)
theorem many_step {n0 g : Nat} {w w1 : World} {x0 x1 x2 x3 x4 x5 : Value} {r : Rx} (hn0 : n0 ≤ g) (hlt : g < w1.heap.size) (hv : ReAt (Own n0 g) w1 (.agg #[x0, x1, x2, x3, x4, x5]) r) (hn : w1.heap[g]? = some nilBlk) (hb : Below n0 w w1) :
    (manyW w1 g x0 x1 x2 x3 x4 x5).heap[g]? = some (.cells #[.int .u8 6, .int .u64 0, .int .u64 0, .int .u64 0, .int .u64 0, .slice (some ⟨w1.heap.size, 0, none⟩) 1 1] 27) ∧
    ReAt (New n0) (manyW w1 g x0 x1 x2 x3 x4 x5) (.agg #[.int .u8 6, .int .u64 0, .int .u64 0, .int .u64 0, .int .u64 0, .slice (some ⟨w1.heap.size, 0, none⟩) 1 1]) (.node 6 Ws.nil [r]) ∧ Below n0 w (manyW w1 g x0 x1 x2 x3 x4 x5) := by
  have hsz := putW_size w1 g (.int .u8 6) (.int .u64 0) (.int .u64 0) (.int .u64 0) (.int .u64 0) (.slice (some ⟨w1.heap.size, 0, none⟩) 1 1)
  refine ⟨(Below.heap_alloc _ _ _ (by rw [hsz]; exact hlt)).trans (putR hn _ _ _ _ _ _), ⟨by decide, Ws.nil_ok, _, _, rfl, Nat.le_refl _, by simp, row_one (blk_at _ _ hsz.symm) ?_ ?_⟩, (putB hb hn0 _ _ _ _ _ _).alloc (by rw [hsz]; omega) _⟩
  · unfold New; omega
  · refine hv.go ⟨by unfold manyW; rw [World.size_alloc, hsz]; omega, fun b h1 h2 => ⟨?_, (Below.heap_alloc _ _ _ (by rw [hsz]; exact h1)).trans (putW_other _ _ _ _ _ _ _ _ h2.2)⟩⟩
    unfold Own at h2; unfold New; omega
set_option maxHeartbeats 1000000 in
theorem manyX_any {ok : Nat → Prop} (r : Rx) (v : Value) (w : World) (h : ReAt ok w v r) :
    Calls Tryz.prog 77 #[v] w (NewPost (.node 6 Ws.nil [r]) w) := by
  obtain ⟨y0, y1, y2, y3, y4, yl, yn, yc, rfl⟩ := cells_re h
  have KC := Lib.hid fun W (hb : Below w.heap.size w W) => cloneR r _ W (h.below hb)
  clear h
  go_enter Tryz.func77, Tryz.ntmps77
  go_wp2_with fail
  refine (KC.out _ (((Below.refl _ w).alloc (Nat.le_refl _) _).alloc (by simp) _)).mono ?_
  rintro e w1 ⟨v, rfl, hv, hb1⟩
  obtain ⟨x0, x1, x2, x3, x4, bl, n', cp, rfl⟩ := cells_re hv
  have hn : w1.heap[w.heap.size + 1]? = some nilBlk := (hb1.block _ (by simp)).trans (blk_at _ _ (by simp))
  have hs := hb1.size
  simp at hs
  have hbw : Below w.heap.size w w1 := (((Below.refl _ w).alloc (Nat.le_refl _) _).alloc (by simp) _).trans (hb1.mono (by simp; omega))
  obtain ⟨g0, g1, g2, g3, g4, g5, p0, p1, p2, p3, p4, p5⟩ := cellsR hn
  have hlt : w.heap.size + 1 < w1.heap.size := by omega
  obtain ⟨s1, s2, s3⟩ := many_step (g := w.heap.size + 1) (n0 := w.heap.size) (r := r) (by omega) (by omega) (by
    refine hv.imp fun b _ h => ?_
    unfold New at h; simp at h; unfold Own; omega) hn hbw
  unfold manyW putW at s1 s2 s3
  have HS1 := Lib.hid s1
  have HS2 := Lib.hid s2
  have HS3 := Lib.hid s3
  clear hv hn hbw hb1 s1 s2 s3
  go_wp2
  exact ret_re HS1.out Tryz.results77 rfl rfl ⟨_, rfl, HS2.out, HS3.out⟩
def sizeInv (l : List Rx) (w : World) (x y : Value) (wr : World) : Prop := ∃ i m : Nat, i ≤ l.length ∧ m = l.length + Rx.sizes ((l.take i).flatMap Rx.kids) ∧ x = .int .i64 (wrap64 (m : Int)) ∧ y = .int .i64 i ∧ Below w.heap.size w wr
theorem sizes_kids (l : List Rx) : Rx.sizes l = l.length + Rx.sizes (l.flatMap Rx.kids) := by
  induction l with
  | nil => simp [Rx.sizes]
  | cons r t ih =>
    obtain ⟨k, s, ks⟩ := r
    simp only [Rx.sizes, Rx.size, List.flatMap_cons, sizes_append, List.length_cons, Rx.kids, ih]
    omega
theorem wrap_add (a b : Nat) : wrap64 (wrap64 (a : Int) + wrap64 (b : Int)) = wrap64 ((a + b : Nat) : Int) := by unfold wrap64; omega
set_option maxHeartbeats 4000000 in
theorem size_any {ok : Nat → Prop} (N : Nat) : ∀ (l : List Rx), Rx.sizes l < N → ∀ (al : Option Addr) (cap : Nat) (w : World), l.length < 2199023255552 → RowAt ok w al l →
    Calls Tryz.prog 21 #[.slice al l.length cap] w fun e w' => e = .returned (.int .i64 (wrap64 (Rx.sizes l : Int))) ∧ Below w.heap.size w w' := by
  induction N with
  | zero => intro l h; omega
  | succ N ih =>
    intro l hN al cap w hlen h
    have HR := Lib.hid h
    have IH := Lib.hid ih
    clear h ih
    go_enter Tryz.func21, Tryz.ntmps21
    go_wp2
    go_loopw [3, 10] (fun x y wr => sizeInv l w x y wr) (fun _ y _ => l.length - (intOf y).toNat)
    case atStart => exact ⟨0, l.length, Nat.zero_le _, by simp [Rx.sizes], by rw [IntWalk.wrap64_in _ (by omega)], rfl, Below.refl _ w⟩
    case round =>
      obtain ⟨i, m, hi, hm, rfl, rfl, hb⟩ := hrel
      have HM := Lib.hid hm
      clear hm
      by_cases hlt : i < l.length
      · obtain ⟨b, off, hab, hblt, hnode⟩ := HR.out.kid hlt
        subst hab
        have hkid := NodeAt.below hb _ hblt hnode
        have hkz := size_kid hlt
        have htk : l.take (i + 1) = l.take i ++ [l[i]] := List.take_succ_eq_append_getElem hlt
        have HTK := Lib.hid htk
        clear htk hnode
        generalize l[i] = kid at *
        obtain ⟨k', ⟨ta, tb, tc, td⟩, ks'⟩ := kid
        obtain ⟨al', cap', ⟨c0, c1, c2, c3, c4, c5⟩, hre⟩ := hkid.read
        simp only at c0 c1 c2 c3 c4 c5
        obtain ⟨-, -, al2, cap2, e, -, hl2, hrow2⟩ := hre
        simp at e
        obtain ⟨rfl, rfl⟩ := e
        have hkz' : Rx.sizes ks' < N := by simp [Rx.size] at hkz; omega
        have KC := Lib.hid fun W (hb : Below wr.heap.size wr W) => IH.out ks' hkz' al' cap' W hl2 (hrow2.below hb)
        clear hkid hrow2
        go_wp2_with fail
        refine (KC.out _ ((Below.refl _ wr).alloc (Nat.le_refl _) _)).mono ?_
        rintro e w1 ⟨rfl, hb1⟩
        have hbw : Below w.heap.size w w1 := hb.trans ((((Below.refl _ wr).alloc (Nat.le_refl _) _).trans (hb1.mono (by simp))).mono hb.size)
        have HBW := Lib.hid hbw
        have HW := Lib.hid (wrap_add m (Rx.sizes ks'))
        clear hb1 hbw c0 c1 c2 c3 c4 c5
        generalize wrap64 ((m : Nat) : Int) = x at *
        generalize wrap64 ((Rx.sizes ks' : Nat) : Int) = z at *
        go_wp2
        refine ⟨⟨i + 1, m + Rx.sizes ks', by omega, ?_, ?_, by go_num, HBW.out⟩, by simp [intOf]; omega⟩
        · rw [HTK.out, HM.out, List.flatMap_append, sizes_append]
          simp [Rx.kids]; omega
        · rw [HW.out]
      · have he : l.take i = l := List.take_of_length_le (by omega)
        rw [he] at HM
        have HZ := Lib.hid (sizes_kids l)
        go_wp2
        go_ret
        exact ⟨by rw [HZ.out, ← HM.out]; rfl, hb⟩
theorem sizeX {ok : Nat → Prop} (l : List Rx) (al : Option Addr) (cap : Nat) (w : World) (hl : l.length < 2199023255552) (h : RowAt ok w al l) :
    Calls Tryz.prog 21 #[.slice al l.length cap] w fun e w' => e = .returned (.int .i64 (wrap64 (Rx.sizes l : Int))) ∧ Below w.heap.size w w' := size_any _ l (Nat.lt_succ_self _) al cap w hl h
end Go.Proofs.YtfmdcnfniimkoaaGreat
/- quillref08's Seq, Star. Made by wip/r8-a.py. -/
namespace Go.Proofs.YtfmdcnfniimkoaaGreat
open Go.RowKit
theorem kind_emp {e : Ex} {k : Nat} {s : Ws} {ks : List Rx} (h : e.rx = .node k s ks) : ((k : Int) == 1) = e.isEmp := by
  cases e <;> (simp only [Ex.rx] at h; injection h with h1 h2 h3; subst h1; rfl)
theorem kind_eps {e : Ex} {k : Nat} {s : Ws} {ks : List Rx} (h : e.rx = .node k s ks) : ((k : Int) == 2) = e.isEps := by
  cases e <;> (simp only [Ex.rx] at h; injection h with h1 h2 h3; subst h1; rfl)
theorem kind_seq {e : Ex} {k : Nat} {s : Ws} {ks : List Rx} (h : e.rx = .node k s ks) : ((k : Int) == 4) = e.isSeq := by
  cases e <;> (simp only [Ex.rx] at h; injection h with h1 h2 h3; subst h1; rfl)
theorem kind_alt {e : Ex} {k : Nat} {s : Ws} {ks : List Rx} (h : e.rx = .node k s ks) : ((k : Int) == 5) = e.isAlt := by
  cases e <;> (simp only [Ex.rx] at h; injection h with h1 h2 h3; subst h1; rfl)
theorem kind_star {e : Ex} {k : Nat} {s : Ws} {ks : List Rx} (h : e.rx = .node k s ks) : ((k : Int) == 6) = e.isStar := by
  cases e <;> (simp only [Ex.rx] at h; injection h with h1 h2 h3; subst h1; rfl)
theorem kind_cls {e : Ex} {k : Nat} {s : Ws} {ks : List Rx} (h : e.rx = .node k s ks) : ((k : Int) == 3) = e.isCls := by
  cases e <;> (simp only [Ex.rx] at h; injection h with h1 h2 h3; subst h1; rfl)
theorem seqE_empty {a b : Ex} (h : b.isEmp = true) : seqE a b = .empty := by
  obtain rfl := isEmp_iff.1 h
  cases a <;> rfl
theorem seqE_eps {a b : Ex} (h1 : a.isEmp = false) (h2 : a.isEps = false) (h : b.isEps = true) : seqE a b = a := by
  obtain rfl := isEps_iff.1 h
  cases a <;> simp_all [Ex.isEmp, Ex.isEps, seqE, mkS]
theorem seqE_seq {c d b : Ex} (h1 : b.isEmp = false) (h2 : b.isEps = false) : seqE (.seq c d) b = seqE c (seqE d b) := by
  simp only [seqE, h1, h2]; rfl
set_option maxHeartbeats 8000000 in
set_option maxRecDepth 100000 in
theorem ref8seq (N : Nat) : ∀ (a : Ex), a.size ≤ N → ∀ (ok : Nat → Prop) (b : Ex) (v u : Value) (w : World), ReAt ok w v a.rx → ReAt ok w u b.rx →
    Calls Tryz.prog 40 #[v, u] w (ExPost ok (seqE a b) w) := by
  induction N with
  | zero => intro a hN; have := a.size_pos; omega
  | succ N ih =>
    intro a hN ok b v u w h h'
    obtain ⟨ka, ⟨sa, sb, sc, sd⟩, ksa, hsa⟩ := rx_form a
    obtain ⟨kb, ⟨ta, tb, tc, td⟩, ksb, hsb⟩ := rx_form b
    have HA := Lib.hid h
    have HB := Lib.hid h'
    rw [hsa] at h
    rw [hsb] at h'
    obtain ⟨_, _, al, cap, rfl, hcap, _, hrow⟩ := h
    obtain ⟨_, _, bl, bap, rfl, _, _, _⟩ := h'
    simp only at HA HB ⊢
    have k1a := kind_emp hsa
    have k2a := kind_eps hsa
    have k4a := kind_seq hsa
    have k1b := kind_emp hsb
    have k2b := kind_eps hsb
    have KB := Lib.hid fun W => bare_any 1 W (by decide)
    rw [show (((1 : Nat) : Int)) = 1 from rfl] at KB
    cases q1 : a.isEmp with
    | true =>
      rw [q1] at k1a
      rw [show seqE a b = .empty from by rw [isEmp_iff.1 q1]; rfl]
      clear q1 hrow ih hN hsa hsb k2a k4a k1b k2b HA HB
      have B := Lib.hid (Bn2.new w (.cells #[.int .u8 ka, .int .u64 sa, .int .u64 sb, .int .u64 sc, .int .u64 sd, .slice al ksa.length cap] 27) (.cells #[.int .u8 kb, .int .u64 ta, .int .u64 tb, .int .u64 tc, .int .u64 td, .slice bl ksb.length bap] 27))
      go_enter Tryz.func40, Tryz.ntmps40
      go_wp2_with fail
      refine (KB.out _).mono ?_
      rintro e w1 ⟨v1, rfl, hv1, hb1⟩
      obtain ⟨p0, p1, p2, p3, p4, pl, pn, pc, rfl⟩ := cells_re hv1
      have B1 := Lib.hid (B.out.go hb1)
      have HV := Lib.hid (leaf_any (ok' := okN ok w.heap.size) w1 hv1)
      clear hv1 hb1 B
      obtain ⟨c0, c1, c2, c3, c4, c5, f0, f1, f2, f3, f4, f5⟩ := cellsR B1.out.2.2.1
      go_wp2
      exact ret_ex (e := .empty) B1.out.2.2.1 HV.out B1.out.2.2.2 (by omega) Tryz.results40 rfl rfl
    | false =>
    rw [q1] at k1a
    cases q2 : b.isEmp with
    | true =>
      rw [q2] at k1b
      rw [seqE_empty q2]
      clear q1 q2 hrow ih hN hsa hsb k2a k4a k2b HA HB
      have B := Lib.hid (Bn2.new w (.cells #[.int .u8 ka, .int .u64 sa, .int .u64 sb, .int .u64 sc, .int .u64 sd, .slice al ksa.length cap] 27) (.cells #[.int .u8 kb, .int .u64 ta, .int .u64 tb, .int .u64 tc, .int .u64 td, .slice bl ksb.length bap] 27))
      go_enter Tryz.func40, Tryz.ntmps40
      go_wp2_with fail
      refine (KB.out _).mono ?_
      rintro e w1 ⟨v1, rfl, hv1, hb1⟩
      obtain ⟨p0, p1, p2, p3, p4, pl, pn, pc, rfl⟩ := cells_re hv1
      have B1 := Lib.hid (B.out.go hb1)
      have HV := Lib.hid (leaf_any (ok' := okN ok w.heap.size) w1 hv1)
      clear hv1 hb1 B
      obtain ⟨c0, c1, c2, c3, c4, c5, f0, f1, f2, f3, f4, f5⟩ := cellsR B1.out.2.2.1
      go_wp2
      exact ret_ex (e := .empty) B1.out.2.2.1 HV.out B1.out.2.2.2 (by omega) Tryz.results40 rfl rfl
    | false =>
    rw [q2] at k1b
    cases q3 : a.isEps with
    | true =>
      rw [q3] at k2a
      rw [show seqE a b = b from by rw [isEps_iff.1 q3]; rfl]
      clear q1 q2 q3 hrow ih hN hsa hsb k4a k2b HA KB
      have B := Lib.hid (Bn2.new w (.cells #[.int .u8 ka, .int .u64 sa, .int .u64 sb, .int .u64 sc, .int .u64 sd, .slice al ksa.length cap] 27) (.cells #[.int .u8 kb, .int .u64 ta, .int .u64 tb, .int .u64 tc, .int .u64 td, .slice bl ksb.length bap] 27))
      go_enter Tryz.func40, Tryz.ntmps40
      go_wp2
      exact ret_re (blk_at _ _ (by simp)) Tryz.results40 rfl rfl ⟨_, rfl, (HB.out.below (al3 w _ _ _)).imp fun _ _ h => Or.inl h, al3 w _ _ _⟩
    | false =>
    rw [q3] at k2a
    cases q4 : b.isEps with
    | true =>
      rw [q4] at k2b
      rw [seqE_eps q1 q3 q4]
      clear q1 q2 q3 q4 hrow ih hN hsa hsb k4a HB KB
      have B := Lib.hid (Bn2.new w (.cells #[.int .u8 ka, .int .u64 sa, .int .u64 sb, .int .u64 sc, .int .u64 sd, .slice al ksa.length cap] 27) (.cells #[.int .u8 kb, .int .u64 ta, .int .u64 tb, .int .u64 tc, .int .u64 td, .slice bl ksb.length bap] 27))
      go_enter Tryz.func40, Tryz.ntmps40
      go_wp2
      exact ret_re (blk_at _ _ (by simp)) Tryz.results40 rfl rfl ⟨_, rfl, (HA.out.below (al3 w _ _ _)).imp fun _ _ h => Or.inl h, al3 w _ _ _⟩
    | false =>
    rw [q4] at k2b
    cases q5 : a.isSeq with
    | false =>
      rw [q5] at k4a
      rw [seqE_plain q1 q3 q5 q2 q4]
      have KT := Lib.hid fun W (hb : Below w.heap.size w W) => two_any 4 a.rx b.rx _ _ W (by decide) (HA.out.below hb) (HB.out.below hb)
      rw [show (((4 : Nat) : Int)) = 4 from rfl] at KT
      clear q1 q2 q3 q4 q5 hrow ih hN hsa hsb HA HB KB
      have B := Lib.hid (Bn2.new w (.cells #[.int .u8 ka, .int .u64 sa, .int .u64 sb, .int .u64 sc, .int .u64 sd, .slice al ksa.length cap] 27) (.cells #[.int .u8 kb, .int .u64 ta, .int .u64 tb, .int .u64 tc, .int .u64 td, .slice bl ksb.length bap] 27))
      go_enter Tryz.func40, Tryz.ntmps40
      go_wp2_with fail
      refine (KT.out _ B.out.2.2.2).mono ?_
      rintro e w1 ⟨v1, rfl, hv1, hb1⟩
      obtain ⟨p0, p1, p2, p3, p4, pl, pn, pc, rfl⟩ := cells_re hv1
      have B1 := Lib.hid (B.out.go hb1)
      have HV := Lib.hid (show ReAt (okN ok w.heap.size) w1 (.agg #[.int .u8 p0, .int .u64 p1, .int .u64 p2, .int .u64 p3, .int .u64 p4, .slice pl pn pc]) (Ex.seq a b).rx from hv1.imp fun b _ h => by
        rcases h with h | h
        · exact .inl h
        · exact .inr (Nat.le_trans B.out.2.2.2.size h))
      clear hv1 hb1 B
      obtain ⟨c0, c1, c2, c3, c4, c5, f0, f1, f2, f3, f4, f5⟩ := cellsR B1.out.2.2.1
      go_wp2
      exact ret_ex (e := .seq a b) B1.out.2.2.1 HV.out B1.out.2.2.2 (by omega) Tryz.results40 rfl rfl
    | true =>
      rw [q5] at k4a
      cases a with
      | empty => cases q5
      | eps => cases q5
      | cls s => cases q5
      | alt c d => cases q5
      | star c => cases q5
      | seq c d =>
      rw [seqE_seq q2 q4]
      simp only [Ex.rx] at hsa
      injection hsa with e1 e2 e3
      subst e1
      subst e3
      obtain ⟨bk, off, rfl, hlt, hn0⟩ := hrow.kid (i := 0) (by simp)
      simp only [List.getElem_cons_zero, Nat.zero_mul, Nat.add_zero] at hn0
      obtain ⟨bk', off', e', hlt', hn1⟩ := hrow.kid (i := 1) (by simp)
      simp at e'
      obtain ⟨rfl, rfl⟩ := e'
      simp only [List.getElem_cons_zero, List.getElem_cons_succ, Nat.one_mul] at hn1
      have hcap2 : 2 ≤ cap := by simpa using hcap
      obtain ⟨kc, ⟨ca, cb, cc, cd⟩, ksc, hsc⟩ := rx_form c
      obtain ⟨kd, ⟨da, db, dc, dd⟩, ksd, hsd⟩ := rx_form d
      rw [hsc] at hn0
      rw [hsd] at hn1
      obtain ⟨al0, cap0, ⟨i0, i1, i2, i3, i4, i5⟩, hrc⟩ := hn0.read
      obtain ⟨al1, cap1, ⟨j0, j1, j2, j3, j4, j5⟩, hrd⟩ := hn1.read
      simp only at i0 i1 i2 i3 i4 i5 j0 j1 j2 j3 j4 j5
      rw [← hsc] at hrc
      rw [← hsd] at hrd
      have ic := ih c (by simp only [Ex.size] at hN; omega)
      have id' := ih d (by simp only [Ex.size] at hN; omega)
      have KD0 := Lib.hid fun W (hb : Below w.heap.size w W) => id' (okN ok w.heap.size) b _ _ W ((hrd.below hb).imp fun _ _ h => .inl h) ((HB.out.below hb).imp fun _ _ h => .inl h)
      have KC0 := Lib.hid fun W (hb : Below w.heap.size w W) (u' : Value) (hu : ReAt (okN ok w.heap.size) W u' (seqE d b).rx) => ic (okN ok w.heap.size) (seqE d b) _ u' W ((hrc.below hb).imp fun _ _ h => .inl h) hu
      have I6 := Lib.hid (show w.cell? ⟨bk, off, none⟩ = some (.int .u8 kc) ∧ w.cell? ⟨bk, off + 1, none⟩ = some (.int .u64 ca) ∧ w.cell? ⟨bk, off + 2, none⟩ = some (.int .u64 cb) ∧ w.cell? ⟨bk, off + 3, none⟩ = some (.int .u64 cc) ∧ w.cell? ⟨bk, off + 4, none⟩ = some (.int .u64 cd) ∧ w.cell? ⟨bk, off + 5, none⟩ = some (.slice al0 ksc.length cap0) from ⟨i0, i1, i2, i3, i4, i5⟩)
      have J6 := Lib.hid (show w.cell? ⟨bk, off + 6, none⟩ = some (.int .u8 kd) ∧ w.cell? ⟨bk, off + 6 + 1, none⟩ = some (.int .u64 da) ∧ w.cell? ⟨bk, off + 6 + 2, none⟩ = some (.int .u64 db) ∧ w.cell? ⟨bk, off + 6 + 3, none⟩ = some (.int .u64 dc) ∧ w.cell? ⟨bk, off + 6 + 4, none⟩ = some (.int .u64 dd) ∧ w.cell? ⟨bk, off + 6 + 5, none⟩ = some (.slice al1 ksd.length cap1) from ⟨j0, j1, j2, j3, j4, j5⟩)
      have hlen : [c.rx, d.rx].length = 2 := rfl
      rw [hlen, show (((4 : Nat) : Int)) = 4 from rfl]
      clear k1a k2a k4a hlen i0 i1 i2 i3 i4 i5 j0 j1 j2 j3 j4 j5 q1 q2 q3 q4 q5 hrow ih ic id' hN hsb hsc hsd HA HB KB hn0 hn1 hrc hrd hcap e2
      have B := Lib.hid (Bn2.new w (.cells #[.int .u8 4, .int .u64 sa, .int .u64 sb, .int .u64 sc, .int .u64 sd, .slice (some ⟨bk, off, none⟩) 2 cap] 27) (.cells #[.int .u8 kb, .int .u64 ta, .int .u64 tb, .int .u64 tc, .int .u64 td, .slice bl ksb.length bap] 27))
      go_enter Tryz.func40, Tryz.ntmps40
      go_wp2_with fail
      obtain ⟨W, hW⟩ : ∃ x, x = ((w.alloc (.cells #[.int .u8 4, .int .u64 sa, .int .u64 sb, .int .u64 sc, .int .u64 sd, .slice (some ⟨bk, off, none⟩) 2 cap] 27)).alloc (.cells #[.int .u8 kb, .int .u64 ta, .int .u64 tb, .int .u64 tc, .int .u64 td, .slice bl ksb.length bap] 27)).alloc (.cells #[.int .u8 0, .int .u64 0, .int .u64 0, .int .u64 0, .int .u64 0, .slice none 0 0] 27) := ⟨_, rfl⟩
      rw [← hW] at B ⊢
      clear hW
      have WX := Lib.hid fun x (hx : Below W.heap.size W x) => (B.out.go hx).2.2.2.size
      have CX := Lib.hid fun x (hx : Below W.heap.size W x) => (cellsR (B.out.go hx).1).2.2.2.2.2.1
      have CB := Lib.hid fun x (hx : Below W.heap.size W x) => cellsR (B.out.go hx).2.1
      have CC := Lib.hid fun x (hx : Below W.heap.size W x) => six_keep hlt I6.out (B.out.go hx).2.2.2
      have CD := Lib.hid fun x (hx : Below W.heap.size W x) => six_keep hlt J6.out (B.out.go hx).2.2.2
      have KD := Lib.hid fun x (hx : Below W.heap.size W x) => KD0.out x (B.out.go hx).2.2.2
      have KC := Lib.hid fun x (hx : Below W.heap.size W x) => KC0.out x (B.out.go hx).2.2.2
      refine wp_region_orderT 11 (fun i => ([SP.eq (.pointer (some ⟨w.heap.size, 5, none⟩)), SP.eq (.slice (some ⟨bk, off, none⟩) 2 cap), SP.eq (.pointer (some ⟨bk, off, none⟩)), SP.eq (.agg #[.int .u8 kc, .int .u64 ca, .int .u64 cb, .int .u64 cc, .int .u64 cd, .slice al0 ksc.length cap0]), SP.eq (.pointer (some ⟨w.heap.size, 5, none⟩)), SP.eq (.slice (some ⟨bk, off, none⟩) 2 cap), SP.eq (.pointer (some ⟨bk, off + 6, none⟩)), SP.eq (.agg #[.int .u8 kd, .int .u64 da, .int .u64 db, .int .u64 dc, .int .u64 dd, .slice al1 ksd.length cap1]), SP.eq (.agg #[.int .u8 kb, .int .u64 ta, .int .u64 tb, .int .u64 tc, .int .u64 td, .slice bl ksb.length bap]), SP.ex (okN ok w.heap.size) (seqE d b), SP.ex (okN ok w.heap.size) (seqE c (seqE d b))] : List SP).getD i SP.free) (fun _ => false) (fun _ _ _ h => by cases h) (by kernel_rfl) (by kernel_rfl) ⟨?_, ?_, ?_, ?_, ?_, ?_, ?_, ?_, ?_, ?_, ?_, trivial⟩ ?_
      · intro a x K out get hb hK
        rw [if_pos (wanted_none rfl)]
        have o2 : a.tmps[2]? = some (.pointer (some ⟨w.heap.size, 0, none⟩)) := out 2 (by kernel_rfl)
        clear out get
        go_simp
        exact hK _ _ rfl (Below.refl _ _) (fun h => by cases h)
      · intro a x K out get hb hK
        rw [if_pos (wanted_none rfl)]
        obtain ⟨y25, hy25, rfl⟩ := get 0 _ _ rfl rfl (by kernel_rfl)
        clear out get
        have hk5 := CX.out x hb
        go_simp
        exact hK _ _ rfl (Below.refl _ _) (fun h => by cases h)
      · intro a x K out get hb hK
        rw [if_pos (wanted_none rfl)]
        obtain ⟨y26, hy26, rfl⟩ := get 1 _ _ rfl rfl (by kernel_rfl)
        clear out get
        go_simp
        exact hK _ _ rfl (Below.refl _ _) (fun h => by cases h)
      · intro a x K out get hb hK
        rw [if_pos (wanted_none rfl)]
        obtain ⟨y27, hy27, rfl⟩ := get 2 _ _ rfl rfl (by kernel_rfl)
        clear out get
        obtain ⟨c0, c1, c2, c3, c4, c5⟩ := CC.out x hb
        go_simp
        exact hK _ _ rfl (Below.refl _ _) (fun h => by cases h)
      · intro a x K out get hb hK
        rw [if_pos (wanted_none rfl)]
        have o2 : a.tmps[2]? = some (.pointer (some ⟨w.heap.size, 0, none⟩)) := out 2 (by kernel_rfl)
        clear out get
        go_simp
        exact hK _ _ rfl (Below.refl _ _) (fun h => by cases h)
      · intro a x K out get hb hK
        rw [if_pos (wanted_none rfl)]
        obtain ⟨y29, hy29, rfl⟩ := get 4 _ _ rfl rfl (by kernel_rfl)
        clear out get
        have hk5 := CX.out x hb
        go_simp
        exact hK _ _ rfl (Below.refl _ _) (fun h => by cases h)
      · intro a x K out get hb hK
        rw [if_pos (wanted_none rfl)]
        obtain ⟨y30, hy30, rfl⟩ := get 5 _ _ rfl rfl (by kernel_rfl)
        clear out get
        go_simp
        exact hK _ _ rfl (Below.refl _ _) (fun h => by cases h)
      · intro a x K out get hb hK
        rw [if_pos (wanted_none rfl)]
        obtain ⟨y31, hy31, rfl⟩ := get 6 _ _ rfl rfl (by kernel_rfl)
        clear out get
        obtain ⟨c0, c1, c2, c3, c4, c5⟩ := CD.out x hb
        go_simp
        exact hK _ _ rfl (Below.refl _ _) (fun h => by cases h)
      · intro a x K out get hb hK
        rw [if_pos (wanted_none rfl)]
        have o3 : a.tmps[3]? = some (.pointer (some ⟨w.heap.size + 1, 0, none⟩)) := out 3 (by kernel_rfl)
        obtain ⟨c0, c1, c2, c3, c4, c5, -⟩ := CB.out x hb
        clear out get
        go_simp
        exact hK _ _ rfl (Below.refl _ _) (fun h => by cases h)
      · intro a x K out get hb hK
        rw [if_pos (wanted_none rfl)]
        obtain ⟨y32, hy32, rfl⟩ := get 7 _ _ rfl rfl (by kernel_rfl)
        obtain ⟨y33, hy33, rfl⟩ := get 8 _ _ rfl rfl (by kernel_rfl)
        clear out get
        go_simp
        refine (KD.out x hb).mono ?_
        rintro e w2 ⟨v2, rfl, hv2, hb2⟩
        exact hK _ _ (ExV.of hv2 (okN_in (WX.out x hb))) hb2 (fun h => by cases h)
      · intro a x K out get hb hK
        rw [if_pos (wanted_none rfl)]
        obtain ⟨y28, hy28, rfl⟩ := get 3 _ _ rfl rfl (by kernel_rfl)
        obtain ⟨y34, hy34, ⟨p0, p1, p2, p3, p4, pl, pn, pc, rfl, hr34⟩⟩ := get 9 _ _ rfl rfl (by kernel_rfl)
        clear out get
        go_simp
        refine (KC.out x hb _ hr34).mono ?_
        rintro e w2 ⟨v2, rfl, hv2, hb2⟩
        exact hK _ _ (ExV.of hv2 (okN_in (WX.out x hb))) hb2 (fun h => by cases h)
      refine ao_finT (isD := fun s => decide (25 ≤ s) && decide (s ≤ 35)) (by kernel_rfl) ?_
      intro f x hv hne hb
      clear hne
      obtain ⟨p0, p1, p2, p3, p4, pl, pn, pc, e35, r35⟩ := hv 10 _ _ (by decide) rfl rfl
      have B2 := Lib.hid (B.out.go hb)
      have HV := Lib.hid r35
      obtain ⟨c0, c1, c2, c3, c4, c5, f0, f1, f2, f3, f4, f5⟩ := cellsR B2.out.2.2.1
      clear hv hb r35
      simp only [frm, List.drop_succ_cons, List.drop_zero]
      simp
      rw [e35]
      generalize f 25 = u25 at *
      generalize f 26 = u26 at *
      generalize f 27 = u27 at *
      generalize f 28 = u28 at *
      generalize f 29 = u29 at *
      generalize f 30 = u30 at *
      generalize f 31 = u31 at *
      generalize f 32 = u32 at *
      generalize f 33 = u33 at *
      generalize f 34 = u34 at *
      clear e35 f
      go_wp2
      exact ret_ex (e := seqE c (seqE d b)) B2.out.2.2.1 HV.out B2.out.2.2.2 (by omega) Tryz.results40 rfl rfl
theorem starE_star {a : Ex} (h : a.isStar = true) : starE a = a := by cases a <;> simp_all [Ex.isStar, starE]
theorem starE_plain {a : Ex} (h1 : a.isEmp = false) (h2 : a.isEps = false) (h3 : a.isStar = false) : starE a = .star a := by cases a <;> simp_all [Ex.isEmp, Ex.isEps, Ex.isStar, starE]
theorem starE_bare {a : Ex} (h : a.isEmp = true ∨ a.isEps = true) : starE a = .eps := by cases a <;> simp_all [Ex.isEmp, Ex.isEps, starE]
set_option maxHeartbeats 4000000 in
set_option maxRecDepth 100000 in
theorem ref8star (a : Ex) (ok : Nat → Prop) (v : Value) (w : World) (h : ReAt ok w v a.rx) : Calls Tryz.prog 15 #[v] w (ExPost ok (starE a) w) := by
    obtain ⟨ka, ⟨sa, sb, sc, sd⟩, ksa, hsa⟩ := rx_form a
    have HA := Lib.hid h
    rw [hsa] at h
    obtain ⟨_, _, al, cap, rfl, hcap, _, hrow⟩ := h
    simp only at HA ⊢
    have k1a := kind_emp hsa
    have k2a := kind_eps hsa
    have k6a := kind_star hsa
    have KB := Lib.hid fun W => bare_any 2 W (by decide)
    rw [show (((2 : Nat) : Int)) = 2 from rfl] at KB
    cases q1 : a.isEmp with
    | true =>
      rw [q1] at k1a
      rw [starE_bare (.inl q1)]
      clear q1 hrow hsa k2a k6a HA
      have B := Lib.hid (Bn1.new w (.cells #[.int .u8 ka, .int .u64 sa, .int .u64 sb, .int .u64 sc, .int .u64 sd, .slice al ksa.length cap] 27))
      go_enter Tryz.func15, Tryz.ntmps15
      go_wp2_with fail
      refine (KB.out _).mono ?_
      rintro e w1 ⟨v1, rfl, hv1, hb1⟩
      obtain ⟨p0, p1, p2, p3, p4, pl, pn, pc, rfl⟩ := cells_re hv1
      have B1 := Lib.hid (B.out.go hb1)
      have HV := Lib.hid (leaf_any (ok' := okN ok w.heap.size) w1 hv1)
      clear hv1 hb1 B
      obtain ⟨c0, c1, c2, c3, c4, c5, f0, f1, f2, f3, f4, f5⟩ := cellsR B1.out.2.1
      go_wp2
      exact ret_ex (e := .eps) B1.out.2.1 HV.out B1.out.2.2 (by omega) Tryz.results15 rfl rfl
    | false =>
    rw [q1] at k1a
    cases q2 : a.isEps with
    | true =>
      rw [q2] at k2a
      rw [starE_bare (.inr q2)]
      clear q1 q2 hrow hsa k6a HA
      have B := Lib.hid (Bn1.new w (.cells #[.int .u8 ka, .int .u64 sa, .int .u64 sb, .int .u64 sc, .int .u64 sd, .slice al ksa.length cap] 27))
      go_enter Tryz.func15, Tryz.ntmps15
      go_wp2_with fail
      refine (KB.out _).mono ?_
      rintro e w1 ⟨v1, rfl, hv1, hb1⟩
      obtain ⟨p0, p1, p2, p3, p4, pl, pn, pc, rfl⟩ := cells_re hv1
      have B1 := Lib.hid (B.out.go hb1)
      have HV := Lib.hid (leaf_any (ok' := okN ok w.heap.size) w1 hv1)
      clear hv1 hb1 B
      obtain ⟨c0, c1, c2, c3, c4, c5, f0, f1, f2, f3, f4, f5⟩ := cellsR B1.out.2.1
      go_wp2
      exact ret_ex (e := .eps) B1.out.2.1 HV.out B1.out.2.2 (by omega) Tryz.results15 rfl rfl
    | false =>
    rw [q2] at k2a
    cases q3 : a.isStar with
    | true =>
      rw [q3] at k6a
      rw [starE_star q3]
      clear q1 q2 q3 hrow hsa KB
      have B := Lib.hid (Bn1.new w (.cells #[.int .u8 ka, .int .u64 sa, .int .u64 sb, .int .u64 sc, .int .u64 sd, .slice al ksa.length cap] 27))
      go_enter Tryz.func15, Tryz.ntmps15
      go_wp2
      exact ret_re (blk_at _ _ (by simp)) Tryz.results15 rfl rfl ⟨_, rfl, (HA.out.below (al2 w _ _)).imp fun _ _ h => Or.inl h, al2 w _ _⟩
    | false =>
      rw [q3] at k6a
      rw [starE_plain q1 q2 q3]
      have KM := Lib.hid fun W (hb : Below w.heap.size w W) => many_any a.rx _ W (HA.out.below hb)
      clear q1 q2 q3 hrow hsa KB HA
      have B := Lib.hid (Bn1.new w (.cells #[.int .u8 ka, .int .u64 sa, .int .u64 sb, .int .u64 sc, .int .u64 sd, .slice al ksa.length cap] 27))
      go_enter Tryz.func15, Tryz.ntmps15
      go_wp2_with fail
      refine (KM.out _ B.out.2.2).mono ?_
      rintro e w1 ⟨v1, rfl, hv1, hb1⟩
      obtain ⟨p0, p1, p2, p3, p4, pl, pn, pc, rfl⟩ := cells_re hv1
      have B1 := Lib.hid (B.out.go hb1)
      have HV := Lib.hid (show ReAt (okN ok w.heap.size) w1 (.agg #[.int .u8 p0, .int .u64 p1, .int .u64 p2, .int .u64 p3, .int .u64 p4, .slice pl pn pc]) (Ex.star a).rx from hv1.imp fun b _ h => by
        rcases h with h | h
        · exact .inl h
        · exact .inr (Nat.le_trans B.out.2.2.size h))
      clear hv1 hb1 B
      obtain ⟨c0, c1, c2, c3, c4, c5, f0, f1, f2, f3, f4, f5⟩ := cellsR B1.out.2.1
      go_wp2
      exact ret_ex (e := .star a) B1.out.2.1 HV.out B1.out.2.2 (by omega) Tryz.results15 rfl rfl
end Go.Proofs.YtfmdcnfniimkoaaGreat
/- order.clone. -/
namespace Go.Proofs.YtfmdcnfniimkoaaGreat
open Go.RowKit
def onilBlk : Obj := .cells #[.int .u8 0, .int .u64 0, .int .u64 0, .int .u64 0, .int .u64 0, .slice none 0 0] 27
def oreBlk (k a b c d : Nat) (sl : Value) : Obj := .cells #[.int .u8 k, .int .u64 a, .int .u64 b, .int .u64 c, .int .u64 d, sl] 27
def ocloneInv (k a b c d : Nat) (sl : Value) (ks : List Rx) (w : World) (y : Value) (wr : World) : Prop := ∃ i : Nat, i ≤ ks.length ∧ y = .int .i64 i ∧
  wr.heap[w.heap.size]? = some (oreBlk k a b c d sl) ∧ wr.heap[w.heap.size + 1]? = some onilBlk ∧ Room wr (w.heap.size + 2) (ks.length * 6) ∧
  NodesAt (New (w.heap.size + 3)) wr (w.heap.size + 2) 0 (ks.take i) ∧ Below w.heap.size w wr
set_option maxHeartbeats 4000000 in
theorem oclone_any (N : Nat) : ∀ (r : Rx), r.size ≤ N → ∀ (ok : Nat → Prop) (v : Value) (w : World), ReAt ok w v r →
    Calls Tryz.prog 116 #[v] w (NewPost r w) := by
  induction N with
  | zero => intro r h; have := r.size_pos; omega
  | succ N ih =>
    rintro ⟨k, s, ks⟩ hN ok v w hR
    obtain ⟨hk, hs, al, cap, rfl, hcap, hmax, hrow⟩ := hR
    have hN' : Rx.sizes ks ≤ N := by simp [Rx.size] at hN; omega
    have IH := Lib.hid ih
    have HR := Lib.hid hrow
    obtain ⟨sa, sb, sc, sd⟩ := s
    clear ih hrow hN
    by_cases hks : ks = []
    · subst hks
      go_enter Tryz.func116, Tryz.ntmps116
      go_wp2
      refine ret_re (blk_at _ _ (by simp)) Tryz.results116 rfl rfl ⟨_, rfl, ?_, ((Below.refl _ w).alloc (Nat.le_refl _) _).alloc (by simp) _⟩
      exact bareAt _ _ k ⟨sa, sb, sc, sd⟩ hk hs
    · have hpos : 0 < ks.length := List.length_pos_iff.2 hks
      have e0 : ((ks.length : Int) == 0) = false := by simp; omega
      have hmk := make_re ks.length hmax
      clear hks
      go_enter Tryz.func116, Tryz.ntmps116
      go_wp2
      go_loopw [19] (fun y wr => ocloneInv k sa sb sc sd (.slice al ks.length cap) ks w y wr) (fun y _ => ks.length - (intOf y).toNat)
      case atStart =>
        refine ⟨0, Nat.zero_le _, rfl, ?_, ?_, ?_, by simp only [List.take_zero]; unfold NodesAt; trivial, (((Below.refl _ w).alloc (Nat.le_refl _) _).alloc (by simp) _).alloc (by simp; omega) _⟩
        · exact (Below.heap_alloc _ _ _ (by simp; omega)).trans ((Below.heap_alloc _ _ _ (by simp)).trans (blk_new w _))
        · exact (Below.heap_alloc _ _ _ (by simp)).trans (blk_at _ _ (by simp))
        · have := room_made ((w.alloc (oreBlk k sa sb sc sd (.slice al ks.length cap))).alloc onilBlk) zeroR (ks.length * 6)
          simpa [oreBlk, onilBlk] using this
      case round =>
        obtain ⟨i, hi, rfl, hb0, hb1, hroom, hnodes, hb⟩ := hrel
        have HB0 := Lib.hid hb0
        have HB1 := Lib.hid hb1
        have HN := Lib.hid hnodes
        have HM := Lib.hid hroom
        clear hb0 hb1 hnodes hroom
        by_cases hlt : i < ks.length
        · obtain ⟨b, off, hab, hblt, hnode⟩ := HR.out.kid hlt
          subst hab
          have hkid := NodeAt.below hb _ hblt hnode
          have hkz := size_kid hlt
          have htk : ks.take (i + 1) = ks.take i ++ [ks[i]] := List.take_succ_eq_append_getElem hlt
          have hlen : (ks.take i).length = i := by simp; omega
          have HTK := Lib.hid htk
          have HLEN := Lib.hid hlen
          clear htk hlen
          generalize ks[i] = kid at *
          obtain ⟨k', ⟨ta, tb, tc, td⟩, ks'⟩ := kid
          obtain ⟨al', cap', ⟨c0, c1, c2, c3, c4, c5⟩, hre⟩ := hkid.read
          simp only at c0 c1 c2 c3 c4 c5
          have HRE := Lib.hid hre
          clear hkid hnode hre
          go_wp2_with fail
          refine (IH.out _ (by omega) ok _ _ (HRE.out.below ((Below.refl _ wr).alloc (Nat.le_refl _) _))).mono ?_
          rintro e w3 ⟨v, rfl, hv, hb3⟩
          obtain ⟨x0, x1, x2, x3, x4, bl, n', cp, rfl⟩ := cells_re hv
          have hgk := HM.out.lt
          have hbr : Below wr.heap.size wr w3 := ((Below.refl _ wr).alloc (Nat.le_refl _) _).trans (hb3.mono (by simp))
          have hroom : Room w3 (w.heap.size + 1 + 1) (ks.length * 6) := HM.out.of (hbr.block _ hgk)
          have hnodes : NodesAt (New (w.heap.size + 3)) w3 (w.heap.size + 1 + 1) 0 (ks.take i) := NodesAt.below hbr _ hgk HN.out
          have hv3 := hv.imp (ok' := New (w.heap.size + 3)) fun b _ h => by
            unfold New at h ⊢; simp at h; omega
          have hlen := HLEN.out
          have hpush := nodes_push hroom (by rw [hlen]; omega) (by unfold New; omega) hnodes hv3
          rw [hlen, ← HTK.out] at hpush
          have hput := (put6_at hroom (off := i * 6) (by omega) (.int .u8 x0) (.int .u64 x1) (.int .u64 x2) (.int .u64 x3) (.int .u64 x4) (.slice bl n' cp)).1
          have hbp := put6_below (hb.trans (hbr.mono hb.size)) (g := w.heap.size + 1 + 1) (by omega) (i * 6) (.int .u8 x0) (.int .u64 x1) (.int .u64 x2) (.int .u64 x3) (.int .u64 x4) (.slice bl n' cp)
          have ho := fun b (h : b ≠ w.heap.size + 1 + 1) => put6_other w3 (w.heap.size + 1 + 1) (i * 6) (.int .u8 x0) (.int .u64 x1) (.int .u64 x2) (.int .u64 x3) (.int .u64 x4) (.slice bl n' cp) h
          have h0 := (ho w.heap.size (by omega)).trans ((hbr.block _ (by omega)).trans HB0.out)
          have h1 := (ho (w.heap.size + 1) (by omega)).trans ((hbr.block _ (by omega)).trans HB1.out)
          obtain ⟨⟨z0, q0⟩, f0⟩ := hroom.cells (i * 6) (by omega)
          obtain ⟨⟨z1, q1⟩, f1⟩ := hroom.cells (i * 6 + 1) (by omega)
          obtain ⟨⟨z2, q2⟩, f2⟩ := hroom.cells (i * 6 + 2) (by omega)
          obtain ⟨⟨z3, q3⟩, f3⟩ := hroom.cells (i * 6 + 3) (by omega)
          obtain ⟨⟨z4, q4⟩, f4⟩ := hroom.cells (i * 6 + 4) (by omega)
          obtain ⟨⟨z5, q5⟩, f5⟩ := hroom.cells (i * 6 + 5) (by omega)
          unfold put6 at hpush hput hbp h0 h1
          have HPUSH := Lib.hid hpush
          have HPUT := Lib.hid hput
          have HBP := Lib.hid hbp
          have H0 := Lib.hid h0
          have H1 := Lib.hid h1
          clear hv hb3 hbr hroom hnodes hv3 hlen hpush hput hbp ho h0 h1 c0 c1 c2 c3 c4 c5
          go_wp2
          exact ⟨⟨i + 1, by omega, by go_num, H0.out, H1.out, HPUT.out, HPUSH.out, HBP.out⟩, by simp [intOf]; omega⟩
        · have he : ks.take i = ks := List.take_of_length_le (by omega)
          rw [he] at HN
          obtain ⟨d0, d1, d2, d3, d4, d5, f0, f1, f2, f3, f4, f5⟩ := cellsR HB0.out
          obtain ⟨g0, g1, g2, g3, g4, g5, p0, p1, p2, p3, p4, p5⟩ := cellsR HB1.out
          have hgk := HM.out.lt
          have hb4 : (wr.setCell ⟨w.heap.size, 5, none⟩ (.slice (some ⟨w.heap.size + 1 + 1, 0, none⟩) ks.length ks.length)).heap[w.heap.size + 1]? = some onilBlk := (Below.heap_setCell _ _ _ _ (by simp)).trans HB1.out
          have hp := putR hb4 (.int .u8 k) (.int .u64 sa) (.int .u64 sb) (.int .u64 sc) (.int .u64 sd) (.slice (some ⟨w.heap.size + 1 + 1, 0, none⟩) ks.length ks.length)
          have hbb := putB (hb.setCell (p := ⟨w.heap.size, 5, none⟩) (Nat.le_refl _) (.slice (some ⟨w.heap.size + 1 + 1, 0, none⟩) ks.length ks.length)) (by omega : w.heap.size ≤ w.heap.size + 1) (.int .u8 k) (.int .u64 sa) (.int .u64 sb) (.int .u64 sc) (.int .u64 sd) (.slice (some ⟨w.heap.size + 1 + 1, 0, none⟩) ks.length ks.length)
          have hfar : ∀ b, b ≠ w.heap.size → b ≠ w.heap.size + 1 → (putW (wr.setCell ⟨w.heap.size, 5, none⟩ (.slice (some ⟨w.heap.size + 1 + 1, 0, none⟩) ks.length ks.length)) (w.heap.size + 1) (.int .u8 k) (.int .u64 sa) (.int .u64 sb) (.int .u64 sc) (.int .u64 sd) (.slice (some ⟨w.heap.size + 1 + 1, 0, none⟩) ks.length ks.length)).heap[b]? = wr.heap[b]? := by
            intro b n0 n1
            unfold putW
            rw [Below.heap_setCell _ _ _ _ n1, Below.heap_setCell _ _ _ _ n1, Below.heap_setCell _ _ _ _ n1, Below.heap_setCell _ _ _ _ n1, Below.heap_setCell _ _ _ _ n1, Below.heap_setCell _ _ _ _ n1, Below.heap_setCell _ _ _ _ n0]
          have hsz : (putW (wr.setCell ⟨w.heap.size, 5, none⟩ (.slice (some ⟨w.heap.size + 1 + 1, 0, none⟩) ks.length ks.length)) (w.heap.size + 1) (.int .u8 k) (.int .u64 sa) (.int .u64 sb) (.int .u64 sc) (.int .u64 sd) (.slice (some ⟨w.heap.size + 1 + 1, 0, none⟩) ks.length ks.length)).heap.size = wr.heap.size := by simp [putW, World.setCell]
          have hrow : RowAt (New w.heap.size) (putW (wr.setCell ⟨w.heap.size, 5, none⟩ (.slice (some ⟨w.heap.size + 1 + 1, 0, none⟩) ks.length ks.length)) (w.heap.size + 1) (.int .u8 k) (.int .u64 sa) (.int .u64 sb) (.int .u64 sc) (.int .u64 sd) (.slice (some ⟨w.heap.size + 1 + 1, 0, none⟩) ks.length ks.length)) (some ⟨w.heap.size + 1 + 1, 0, none⟩) ks := by
            refine .inr ⟨_, _, rfl, by rw [hsz]; exact hgk, by unfold New; omega, NodesAt.go (ok := New (w.heap.size + 3)) ⟨by rw [hsz]; exact Nat.le_refl _, fun b _ h => ?_⟩ ks (hfar _ (by omega) (by omega)) HN.out⟩
            unfold New at h
            exact ⟨by unfold New; omega, hfar b (by omega) (by omega)⟩
          unfold putW at hp hbb hrow
          have HP := Lib.hid hp
          have HBB := Lib.hid hbb
          have HROW := Lib.hid hrow
          clear hp hbb hrow hfar hsz hb4
          go_wp2
          exact ret_re HP.out Tryz.results116 rfl rfl ⟨_, rfl, ⟨hk, hs, _, _, rfl, Nat.le_refl _, hmax, HROW.out⟩, HBB.out⟩
theorem ocloneR (r : Rx) {ok : Nat → Prop} (v : Value) (w : World) (h : ReAt ok w v r) : Calls Tryz.prog 116 #[v] w (NewPost r w) := oclone_any r.size r (Nat.le_refl _) ok v w h
end Go.Proofs.YtfmdcnfniimkoaaGreat
/- What may be is an expression; its sets are sets. -/
namespace Go.Proofs.YtfmdcnfniimkoaaGreat
open Go.RowKit
theorem node_sets {ok : Nat → Prop} {w : World} (N : Nat) : ∀ (r : Rx), r.size ≤ N → ∀ (b off : Nat), NodeAt ok w b off r → r.SetsOk := by
  induction N with
  | zero => intro r h; have := r.size_pos; omega
  | succ N ih =>
    rintro ⟨k, s, ks⟩ hN b off h
    have hN' : Rx.sizes ks ≤ N := by simp [Rx.size] at hN; omega
    unfold NodeAt at h
    obtain ⟨_, hs, _, al, cap, _, _, _, h3⟩ := h
    unfold Rx.SetsOk
    refine ⟨hs, fun r hr => ?_⟩
    rcases h3 with rfl | ⟨b', off', _, _, _, h4⟩
    · cases hr
    · obtain ⟨i, hi, rfl⟩ := List.getElem_of_mem hr
      exact ih _ (Nat.le_trans (size_kid hi) hN') _ _ (nodesAt_get h4 i hi)
theorem ReAt.sets {ok : Nat → Prop} {w : World} {v : Value} {r : Rx} (h : ReAt ok w v r) : r.SetsOk := by
  obtain ⟨k, s, ks⟩ := r
  obtain ⟨_, hs, al, cap, _, _, _, h3⟩ := h
  unfold Rx.SetsOk
  refine ⟨hs, fun r hr => ?_⟩
  rcases h3 with rfl | ⟨b', off', _, _, _, h4⟩
  · cases hr
  · obtain ⟨i, hi, rfl⟩ := List.getElem_of_mem hr
    exact node_sets _ _ (Nat.le_refl _) _ _ (nodesAt_get h4 i hi)
theorem may_good {r : Rx} (h : mayR r = true) : goodR r = true ∧ r.size ≤ 2000 := by
  unfold mayR mayN at h
  simpa using h
theorem may_ex {ok : Nat → Prop} {w : World} {v : Value} {r : Rx} (h : ReAt ok w v r) (hm : mayR r = true) : ∃ e : Ex, e.rx = r ∧ e.Wf ∧ e.size ≤ 2000 := by
  have hg := may_good hm
  obtain ⟨e, h1, h2⟩ := ex_of_good r.size r (Nat.le_refl _) hg.1 h.sets
  exact ⟨e, h1, h2, by rw [← Ex.size_rx, h1]; exact hg.2⟩
end Go.Proofs.YtfmdcnfniimkoaaGreat
/- What is shown is read as it was; what is read alone is read in round brackets; no program. -/
namespace Go.Proofs.YtfmdcnfniimkoaaGreat
theorem stars_no {x : List UInt8} (h : NoStar x) (e : Ex) : stars e x = (e, x) := by
  cases x with
  | nil => rfl
  | cons c t =>
    unfold stars
    rw [if_neg (fun hc => h t (by rw [hc]))]
theorem beg_term {x : List UInt8} (h : Term1 x) : begB x = false := by
  rcases h with rfl | ⟨t, rfl⟩ | ⟨t, rfl⟩
  · rfl
  · show (decide ((41 : UInt8) = 46) || decide ((41 : UInt8) = 91) || decide ((41 : UInt8) = 40) || decide ((41 : UInt8) = 92) || ownB 41) = false
    decide
  · show (decide ((124 : UInt8) = 46) || decide ((124 : UInt8) = 91) || decide ((124 : UInt8) = 40) || decide ((124 : UInt8) = 92) || ownB 124) = false
    decide
def ItemR (e : Ex) : Prop := ∀ x, ∃ a l1, PX .atom (e.item ++ x) (.ok a l1) ∧ stars a l1 = stars e x
def PartR (e : Ex) : Prop := ∀ x, Term1 x → PX .row (e.part ++ x) (.ok e x)
def TextR (e : Ex) : Prop := ∀ x, Term0 x → PX .alt (e.text ++ x) (.ok e x)
theorem part_of_item {e : Ex} (h : ItemR e) (hp : e.part = e.item) : PartR e := by
  intro x hx
  obtain ⟨a, l1, h1, h2⟩ := h x
  rw [hp]
  exact PX.rowOne h1 (by rw [h2]; exact stars_no hx.noStar e) (beg_term hx)
theorem text_of_part {e : Ex} (h : PartR e) (ha : e.isAlt = false) : TextR e := by
  intro x hx
  rw [← part_text ha]
  refine PX.altOne (h x hx.one) ?_
  rcases hx with rfl | ⟨t, rfl⟩
  · exact notAt_nil _
  · exact notAt_cons (by decide)
theorem item_of_text {e : Ex} (we : e.Wf) (h : TextR e) (hi : e.item = 40 :: (e.text ++ [41])) : ItemR e := by
  intro x
  refine ⟨e, x, ?_, rfl⟩
  rw [hi]
  have e1 : 40 :: (e.text ++ [41]) ++ x = 40 :: (e.text ++ 41 :: x) := by simp
  rw [e1]
  obtain ⟨c, t, hc, hs⟩ := text_start e we
  exact PX.round (by rw [hc]; exact notAt_cons hs.1) (h _ (.inr ⟨x, rfl⟩))
theorem beg_item {e : Ex} (we : e.Wf) (x : List UInt8) : begB (e.item ++ x) = true := by
  induction e generalizing x with
  | empty => rfl
  | eps => rfl
  | cls s =>
    show begB (textW s ++ x) = true
    unfold textW
    split
    · rfl
    · split
      · rename_i h1
        obtain ⟨n, hn⟩ := List.length_eq_one_iff.1 h1
        rw [hn]
        exact beg_sign (bytesN_lt s n (by rw [hn]; simp)) x
      · rfl
  | seq a b _ _ => rfl
  | alt a b _ _ => rfl
  | star a ih => rw [item_star, List.append_assoc]; exact ih we _
theorem beg_part {e : Ex} (we : e.Wf) (x : List UInt8) : begB (e.part ++ x) = true := by
  cases e with
  | seq a b => rw [part_seq, List.append_assoc]; exact beg_item we.1 _
  | alt a b => rfl
  | empty => exact beg_item (e := .empty) we x
  | eps => exact beg_item (e := .eps) we x
  | cls s => exact beg_item (e := .cls s) we x
  | star a => exact beg_item (e := .star a) we x
theorem read_back (e : Ex) : e.Wf → ItemR e ∧ PartR e ∧ TextR e := by
  induction e with
  | empty =>
    intro we
    have h1 : ItemR .empty := fun x => ⟨.empty, x, PX.cls (PCls.done Ws.nil x), rfl⟩
    have h2 := part_of_item h1 rfl
    exact ⟨h1, h2, text_of_part h2 rfl⟩
  | eps =>
    intro we
    have h1 : ItemR .eps := fun x => ⟨.eps, x, PX.eps x, rfl⟩
    have h2 := part_of_item h1 rfl
    exact ⟨h1, h2, text_of_part h2 rfl⟩
  | cls s =>
    intro we
    have h1 : ItemR (.cls s) := fun x => ⟨.cls s, x, cls_read we.1 we.2 x, rfl⟩
    have h2 := part_of_item h1 rfl
    exact ⟨h1, h2, text_of_part h2 rfl⟩
  | star a ih =>
    intro we
    have h1 : ItemR (.star a) := fun x => by
      obtain ⟨b, l1, k1, k2⟩ := (ih we).1 (42 :: x)
      refine ⟨b, l1, ?_, ?_⟩
      · rw [item_star, List.append_assoc]; exact k1
      · rw [k2]; rfl
    have h2 := part_of_item h1 rfl
    exact ⟨h1, h2, text_of_part h2 rfl⟩
  | seq a b iha ihb =>
    intro we
    have h2 : PartR (.seq a b) := fun x hx => by
      obtain ⟨p, l1, k1, k2⟩ := (iha we.1).1 (b.part ++ x)
      rw [part_seq, List.append_assoc]
      exact PX.rowMore k1 (by rw [k2]; exact stars_no (noStar_part we.2 x) a) (beg_part we.2 x) ((ihb we.2).2.1 x hx)
    have h3 := text_of_part h2 rfl
    exact ⟨item_of_text we h3 (item_seq a b), h2, h3⟩
  | alt a b iha ihb =>
    intro we
    have h3 : TextR (.alt a b) := fun x hx => by
      rw [text_alt, List.append_assoc]
      exact PX.altMore ((iha we.1).2.1 _ (.inr (.inr ⟨_, rfl⟩))) ((ihb we.2).2.2 x hx)
    have h1 := item_of_text we h3 (item_alt a b)
    exact ⟨h1, part_of_item h1 rfl, h3⟩
/-- What is shown is read as it was. -/
theorem text_read {e : Ex} (we : e.Wf) : PX .alt e.text (.ok e []) := by
  have := (read_back e we).2.2 [] (.inl rfl)
  rwa [List.append_nil] at this
theorem notAt_app {c : UInt8} {l x : List UInt8} (h : NotAt c l) (hl : l ≠ [] ∨ NotAt c x) : NotAt c (l ++ x) := by
  cases l with
  | nil =>
    rcases hl with h1 | h1
    · exact absurd rfl h1
    · exact h1
  | cons d t => exact notAt_cons (fun e => h t (by rw [e]))
theorem len_ne {a b : List UInt8} (h : a.length < b.length) : b ≠ [] := fun e => by rw [e] at h; simp at h
theorem sgn_app {l l1 : List UInt8} {b : Nat} (h : sgn l = .ok b l1) (x : List UInt8) : sgn (l ++ x) = .ok b (l1 ++ x) := by
  match l, h with
  | c :: l, h =>
    by_cases hc : c = 92
    · subst hc
      match l, h with
      | [], h => rw [sgn_92_nil] at h; cases h
      | [d], h =>
        cases h1 : hexV d with
        | none => rw [sgn_92_no _ h1] at h; cases h
        | some x => rw [sgn_92_one h1] at h; cases h
      | d :: d' :: l2, h =>
        cases h1 : hexV d with
        | none => rw [sgn_92_no _ h1] at h; cases h
        | some u =>
          cases h2 : hexV d' with
          | none => rw [sgn_92_two _ h1 h2] at h; cases h
          | some v =>
            rw [sgn_92_yes _ h1 h2] at h
            cases h
            exact sgn_92_yes _ h1 h2
    · rw [sgn_own c l hc] at h
      show sgn (c :: (l ++ x)) = _
      rw [sgn_own c _ hc]
      by_cases ho : ownB c = true
      · rw [if_pos ho] at h ⊢; cases h; rfl
      · rw [if_neg ho] at h; cases h
theorem stars_app (u : List UInt8) : ∀ (l : List UInt8) (a e : Ex) (l' : List UInt8), stars a l = (e, l') → stars a (l ++ 41 :: u) = (e, l' ++ 41 :: u)
  | [], a, e, l', h => by
    simp only [stars, Prod.mk.injEq] at h
    obtain ⟨rfl, rfl⟩ := h
    exact stars_no (fun t e => by simp at e) _
  | c :: l, a, e, l', h => by
    unfold stars at h
    show stars a (c :: (l ++ 41 :: u)) = _
    unfold stars
    split at h
    · rename_i hc
      rw [if_pos hc]
      exact stars_app u l _ e l' h
    · rename_i hc
      rw [if_neg hc]
      simp only [Prod.mk.injEq] at h
      obtain ⟨rfl, rfl⟩ := h
      rfl
/-- What was read, read with a closing round bracket behind it. -/
def Behind (u : List UInt8) : PR → PR
  | .ok e l => .ok e (l ++ 41 :: u)
  | .bad r => .bad r
def IsOk : PR → Prop
  | .ok _ _ => True
  | .bad _ => False
theorem PCls.behind {out : Ws} {l : List UInt8} {r : PR} (h : PCls out l r) (u : List UInt8) : IsOk r → PCls out (l ++ 41 :: u) (Behind u r) := by
  induction h with
  | done out l => exact fun _ => PCls.done out _
  | bad1 => exact fun h => h.elim
  | one h1 h2 h3 _ ih => exact fun ho => PCls.one (notAt_app h1 (.inl (len_ne (sgn_ok h2).2.2))) (sgn_app h2 _) (notAt_app h3 (.inr (notAt_cons (by decide)))) (ih ho)
  | bad2 => exact fun h => h.elim
  | less => exact fun h => h.elim
  | range h1 h2 h3 h4 _ ih => exact fun ho => PCls.range (notAt_app h1 (.inl (len_ne (sgn_ok h2).2.2))) (sgn_app h2 _) (sgn_app h3 _) h4 (ih ho)
theorem beg_app {l : List UInt8} (h : begB l = false) (u : List UInt8) : begB (l ++ 41 :: u) = false := by
  cases l with
  | nil => exact beg_term (.inr (.inl ⟨u, rfl⟩))
  | cons c t => exact h
theorem beg_app' {l : List UInt8} (h : begB l = true) (u : List UInt8) : begB (l ++ u) = true := by
  cases l with
  | nil => cases h
  | cons c t => exact h
theorem PX.behind {t : Tg} {l : List UInt8} {r : PR} (h : PX t l r) (u : List UInt8) : IsOk r → PX t (l ++ 41 :: u) (Behind u r) := by
  induction h with
  | dot l => exact fun _ => PX.dot _
  | cls hc => exact fun ho => PX.cls (hc.behind u ho)
  | eps l => exact fun _ => PX.eps _
  | round h1 h2 ih => exact fun _ => PX.round (notAt_app h1 (.inl (len_ne h2.fact.2.2.1))) (ih trivial)
  | roundNo => exact fun h => h.elim
  | roundBad => exact fun h => h.elim
  | sign h1 h2 h3 h4 =>
    have hn := len_ne (sgn_ok h4).2.2
    exact fun _ => PX.sign (notAt_app h1 (.inl hn)) (notAt_app h2 (.inl hn)) (notAt_app h3 (.inl hn)) (sgn_app h4 _)
  | signBad => exact fun h => h.elim
  | rowBad => exact fun h => h.elim
  | rowOne _ h2 h3 ih => exact fun _ => PX.rowOne (ih trivial) (stars_app u _ _ _ _ h2) (beg_app h3 u)
  | rowMore _ h2 h3 _ ih ih2 => exact fun _ => PX.rowMore (ih trivial) (stars_app u _ _ _ _ h2) (beg_app' h3 _) (ih2 trivial)
  | rowMoreBad => exact fun h => h.elim
  | altBad => exact fun h => h.elim
  | altOne _ h2 ih => exact fun _ => PX.altOne (ih trivial) (notAt_app h2 (.inr (notAt_cons (by decide))))
  | altMore _ _ ih ih2 => exact fun _ => PX.altMore (ih trivial) (ih2 trivial)
  | altMoreBad => exact fun h => h.elim
/-- No expression begins with a closing round bracket. -/
theorem PX.not41 {t : Tg} {l : List UInt8} {r : PR} (h : PX t l r) : IsOk r → NotAt 41 l := by
  induction h with
  | dot l => exact fun _ => notAt_cons (by decide)
  | cls => exact fun _ => notAt_cons (by decide)
  | eps l => exact fun _ => notAt_cons (by decide)
  | round => exact fun _ => notAt_cons (by decide)
  | roundNo => exact fun h => h.elim
  | roundBad => exact fun h => h.elim
  | sign _ _ _ h4 =>
    intro _ t e
    rw [e, sgn_41] at h4
    cases h4
  | signBad => exact fun h => h.elim
  | rowBad => exact fun h => h.elim
  | rowOne _ _ _ ih => exact fun _ => ih trivial
  | rowMore _ _ _ _ ih _ => exact fun _ => ih trivial
  | rowMoreBad => exact fun h => h.elim
  | altBad => exact fun h => h.elim
  | altOne _ _ ih => exact fun _ => ih trivial
  | altMore _ _ ih _ => exact fun _ => ih trivial
  | altMoreBad => exact fun h => h.elim
/-- In round brackets. -/
theorem read_round {s : List UInt8} {a : Ex} (h : PX .alt s (.ok a [])) (u : List UInt8) : PX .atom (40 :: (s ++ 41 :: u)) (.ok a u) :=
  PX.round (notAt_app (h.not41 trivial) (.inl (len_ne h.fact.2.2.1))) (h.behind u trivial)
theorem read_alone {s : List UInt8} {a : Ex} (h : PX .alt s (.ok a [])) : PX .alt (40 :: (s ++ [41])) (.ok a []) :=
  PX.altOne (PX.rowOne (read_round h []) rfl rfl) (notAt_nil _)
theorem read_both {s t : List UInt8} {a b : Ex} (h : PX .alt s (.ok a [])) (h' : PX .alt t (.ok b [])) : PX .alt (40 :: (s ++ 41 :: 124 :: 40 :: (t ++ [41]))) (.ok (.alt a b) []) :=
  PX.altMore (PX.rowOne (read_round h _) rfl (beg_term (.inr (.inr ⟨_, rfl⟩)))) (read_alone h')
end Go.Proofs.YtfmdcnfniimkoaaGreat
/- What Read answers. -/
namespace Go.Proofs.YtfmdcnfniimkoaaGreat
open Go.RowKit
/-- What Read answers: the expression; or the place and the error's number. -/
inductive RD where
  | ok (e : Ex)
  | no (at_ err : Nat)
def topR (n : Nat) (res : PR) : RD := if 65536 < n then .no 0 3 else match res with
  | .bad r => .no (n - r.length) 2
  | .ok e l => if l = [] then (if e.size ≤ 2000 then .ok e else .no 0 4) else .no (n - l.length) 2
def zeroRe : Value := .agg #[.int .u8 0, .int .u64 0, .int .u64 0, .int .u64 0, .int .u64 0, .slice none 0 0]
def RdPost (w : World) (rd : RD) (e : Ending) (w' : World) : Prop := Below w.heap.size w w' ∧ match rd with
  | .ok ex => ∃ v, e = .returned (.tuple #[v, .int .i64 0, .int .i64 0]) ∧ ReAt (New w.heap.size) w' v ex.rx
  | .no k err => e = .returned (.tuple #[zeroRe, .int .i64 (k : Int), .int .i64 (err : Int)])
end Go.Proofs.YtfmdcnfniimkoaaGreat
