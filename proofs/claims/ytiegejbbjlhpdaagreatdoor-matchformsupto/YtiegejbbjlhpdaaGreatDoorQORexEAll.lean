/- Lemmas of mine, merged: QORexE, QORexMay, QOShowM, QOShowN, QONullM, QONullO, QORexR, QORexF, QORexG, QONormM, QONormN, QONormO, QONormE, QODerM, QODerN, QOMatM, QOMatA, QOMatB, QOMatC, QOMatD, QOMatE, QONullA, QOShowBx, QORexH, QOReadM, QOReadN, QOReadTl, QOReadT, QOReadU, QOReadO, QOReadR, QOReadTop, QONormP, QONormF. -/
import Derived.Deep.RegionHeld3
import Derived.Test.YtiegejbbjlhpdaaGreatDoorQORexBAll
import Derived.Test.YtiegejbbjlhpdaaGreatDoorQOSetMAll
import Derived.Laws.MakeOwn
import Derived.Deep.RegionWith
import Derived.BigRegion
import Derived.Test.YtiegejbbjlhpdaaGreatDoorQOSetAAll
import Derived.Test.YtiegejbbjlhpdaaGreatDoorQOAnyOrdAll
import Derived.Test.YtiegejbbjlhpdaaGreatDoorQOAnyOrdTAll
/- Lemmas of mine. -/
namespace Go.Proofs.YtiegejbbjlhpdaaGreatDoor
open Go.RowKit
def bareB (s : Ws) : Bool := sameW s Ws.nil
set_option maxHeartbeats 1000000 in
theorem isBare_any (s : Ws) (w : World) :
    Calls Tryz.prog 70 #[s.v] w fun e w' => e = .returned (.bool (bareB s)) ∧ Below w.heap.size w w' := by
  by_cases h : sameW s Ws.nil = true
  · have e : bareB s = true := h
    rw [e]
    obtain rfl := sameW_iff.1 h
    have hq := eqW_yes Ws.nil
    rw [nil_v] at hq ⊢
    clear h e
    go_enter Tryz.func70, Tryz.ntmps70
    go_wp2
    go_ret
    exact ⟨rfl, (Below.refl _ w).alloc (Nat.le_refl _) _⟩
  · have e : bareB s = false := by simpa [bareB] using h
    rw [e]
    have hne : s ≠ Ws.nil := fun e => h (sameW_iff.2 e)
    have hq := eqW_no hne
    rw [nil_v] at hq
    obtain ⟨a, b, c, d⟩ := s
    unfold Ws.v at hq ⊢
    clear h e hne
    go_enter Tryz.func70, Tryz.ntmps70
    go_wp2
    go_ret
    exact ⟨rfl, (Below.refl _ w).alloc (Nat.le_refl _) _⟩
set_option maxHeartbeats 1000000 in
theorem ofX_any (s : Ws) (w : World) (hs : s.Ok) :
    Calls Tryz.prog 44 #[s.v] w (NewPost (ofR s) w) := by
  have KB := Lib.hid fun W => isBare_any s W
  have HO := Lib.hid (show ofR s = if bareB s then .node 1 Ws.nil [] else .node 3 s [] from rfl)
  generalize bareB s = q at *
  obtain ⟨a, b, c, d⟩ := s
  unfold Ws.v at KB ⊢
  go_enter Tryz.func44, Tryz.ntmps44
  go_wp2_with fail
  refine (KB.out _).mono ?_
  rintro e w1 ⟨rfl, hb1⟩
  have hbl : w1.heap[w.heap.size + 1]? = some (.cells #[.int .u8 0, .int .u64 0, .int .u64 0, .int .u64 0, .int .u64 0, .slice none 0 0] 27) := (hb1.block _ (by simp)).trans (blk_at _ _ (by simp))
  have hbs : w1.heap[w.heap.size]? = some (.cells #[.int .u64 a, .int .u64 b, .int .u64 c, .int .u64 d] 24) := (hb1.block _ (by simp; omega)).trans ((Below.heap_alloc _ _ _ (by simp)).trans (blk_at _ _ rfl))
  have hbw : Below w.heap.size w w1 := (((Below.refl _ w).alloc (Nat.le_refl _) _).alloc (by simp) _).trans (hb1.mono (by simp; omega))
  obtain ⟨d0, d1, d2, d3, d4, d5, f0, f1, f2, f3, f4, f5⟩ := cellsR hbl
  obtain ⟨⟨c0, c1, c2, c3⟩, _⟩ := (show Box w1 w.heap.size ⟨a, b, c, d⟩ from hbs).all
  simp only at c0 c1 c2 c3
  have HBL := Lib.hid hbl
  have HBW := Lib.hid hbw
  clear hbl hbs hb1 hbw
  cases q
  · have HP := Lib.hid (putR HBL.out (.int .u8 3) (.int .u64 a) (.int .u64 b) (.int .u64 c) (.int .u64 d) (.slice none 0 0))
    have HB := Lib.hid (putB HBW.out (by omega : w.heap.size ≤ w.heap.size + 1) (.int .u8 3) (.int .u64 a) (.int .u64 b) (.int .u64 c) (.int .u64 d) (.slice none 0 0))
    unfold putW at HP HB
    go_wp2
    refine ret_re HP.out Tryz.results44 rfl rfl ⟨_, rfl, ?_, HB.out⟩
    rw [HO.out]
    exact bareAt _ _ 3 ⟨a, b, c, d⟩ (by decide) hs
  · have HP := Lib.hid (putR HBL.out (.int .u8 1) (.int .u64 0) (.int .u64 0) (.int .u64 0) (.int .u64 0) (.slice none 0 0))
    have HB := Lib.hid (putB HBW.out (by omega : w.heap.size ≤ w.heap.size + 1) (.int .u8 1) (.int .u64 0) (.int .u64 0) (.int .u64 0) (.int .u64 0) (.slice none 0 0))
    unfold putW at HP HB
    go_wp2
    refine ret_re HP.out Tryz.results44 rfl rfl ⟨_, rfl, ?_, HB.out⟩
    rw [HO.out]
    exact bareAt _ _ 1 Ws.nil (by decide) Ws.nil_ok
def nodeGood (k n : Nat) (q : Bool) : Bool :=
  if k = 1 ∨ k = 2 then decide (n = 0) && q else if k = 3 then decide (n = 0) && !q else if k = 4 ∨ k = 5 then decide (n = 2) && q else if k = 6 then decide (n = 1) && q else false
def goodN : Rx → Bool
  | .node k s ks => nodeGood k ks.length (bareB s)
def ReCells (x : World) (g : Nat) (k a b c d : Nat) (sl : Value) : Prop := x.cell? ⟨g, 0, none⟩ = some (.int .u8 k) ∧ x.cell? ⟨g, 1, none⟩ = some (.int .u64 a) ∧ x.cell? ⟨g, 2, none⟩ = some (.int .u64 b) ∧ x.cell? ⟨g, 3, none⟩ = some (.int .u64 c) ∧ x.cell? ⟨g, 4, none⟩ = some (.int .u64 d) ∧ x.cell? ⟨g, 5, none⟩ = some sl
theorem reCells_of {x : World} {g k a b c d : Nat} {sl : Value} (h : x.heap[g]? = some (.cells #[.int .u8 k, .int .u64 a, .int .u64 b, .int .u64 c, .int .u64 d, sl] 27)) : ReCells x g k a b c d sl := by
  obtain ⟨d0, d1, d2, d3, d4, d5, _⟩ := cellsR h
  exact ⟨d0, d1, d2, d3, d4, d5⟩
theorem ReCells.below {x y : World} {B g k a b c d : Nat} {sl : Value} (h : ReCells x g k a b c d sl) (hb : Below B x y) (hg : g < B) : ReCells y g k a b c d sl := by
  have e := fun o => hb.cell (p := ⟨g, o, none⟩) hg
  obtain ⟨d0, d1, d2, d3, d4, d5⟩ := h
  exact ⟨by rw [e]; exact d0, by rw [e]; exact d1, by rw [e]; exact d2, by rw [e]; exact d3, by rw [e]; exact d4, by rw [e]; exact d5⟩
theorem keepR {W x y : World} {g k a b c d : Nat} {sl : Value} (h : ReCells W g k a b c d sl) (hg : g < W.heap.size) (h1 : Below W.heap.size W x) (h2 : Below x.heap.size x y) :
    (y.cell? ⟨g, 0, none⟩ = some (.int .u8 k) ∧ y.cell? ⟨g, 1, none⟩ = some (.int .u64 a) ∧ y.cell? ⟨g, 2, none⟩ = some (.int .u64 b) ∧ y.cell? ⟨g, 3, none⟩ = some (.int .u64 c) ∧ y.cell? ⟨g, 4, none⟩ = some (.int .u64 d) ∧ y.cell? ⟨g, 5, none⟩ = some sl) ∧ Below W.heap.size W y := by
  have hb := h1.trans (h2.mono h1.size)
  exact ⟨h.below hb hg, hb⟩
set_option maxHeartbeats 4000000 in
theorem nodeMay_any (k : Nat) (s : Ws) (n : Nat) (al : Option Addr) (cap : Nat) (w : World) (hk : k < 256) (hn : n < 2199023255552) :
    Calls Tryz.prog 56 #[.agg #[.int .u8 k, .int .u64 s.a, .int .u64 s.b, .int .u64 s.c, .int .u64 s.d, .slice al n cap]] w fun e w' => e = .returned (.bool (nodeGood k n (bareB s))) ∧ Below w.heap.size w w' := by
  have KB := Lib.hid fun W => isBare_any s W
  generalize bareB s = q at *
  obtain ⟨a, b, c, d⟩ := s
  unfold Ws.v at KB
  simp only at KB ⊢
  go_enter Tryz.func56, Tryz.ntmps56
  go_wp2_with fail
  have h0 := reCells_of (blk_new w (.cells #[.int .u8 k, .int .u64 a, .int .u64 b, .int .u64 c, .int .u64 d, .slice al n cap] 27))
  have hb0 := (Below.refl _ w).alloc (Nat.le_refl _) (.cells #[.int .u8 k, .int .u64 a, .int .u64 b, .int .u64 c, .int .u64 d, .slice al n cap] 27)
  have hg : w.heap.size < (w.alloc (.cells #[.int .u8 k, .int .u64 a, .int .u64 b, .int .u64 c, .int .u64 d, .slice al n cap] 27)).heap.size := by simp
  generalize hW : w.alloc (.cells #[.int .u8 k, .int .u64 a, .int .u64 b, .int .u64 c, .int .u64 d, .slice al n cap] 27) = W at *
  clear hW
  have H0 := Lib.hid h0
  clear h0
  go_region_held3 (fun x => (x.cell? ⟨w.heap.size, 0, none⟩ = some (.int .u8 k) ∧ x.cell? ⟨w.heap.size, 1, none⟩ = some (.int .u64 a) ∧ x.cell? ⟨w.heap.size, 2, none⟩ = some (.int .u64 b) ∧ x.cell? ⟨w.heap.size, 3, none⟩ = some (.int .u64 c) ∧ x.cell? ⟨w.heap.size, 4, none⟩ = some (.int .u64 d) ∧ x.cell? ⟨w.heap.size, 5, none⟩ = some (.slice al n cap)) ∧ Below W.heap.size W x)
    (first | assumption | exact ⟨H0.out, (Below.refl _ _).drew⟩ | exact keepR H0.out hg (And.right (by assumption)) (by assumption))
    (first
      | (go_at_call 70; (with_reducible refine (KB.out _).mono ?_); rintro e w' ⟨rfl, hbb⟩))
  all_goals
    obtain ⟨⟨c0, c1, c2, c3, c4, c5⟩, hbx⟩ := ‹_ ∧ Below W.heap.size W _›
    have hbw := hb0.trans (hbx.mono (Nat.le_of_lt hg))
    have HBW := Lib.hid hbw
    clear hbx hbw
    by_cases k1 : k = 1
    · subst k1
      by_cases hn0 : n = 0
      · subst hn0
        go_wp2
        go_ret
        exact ⟨by simp [nodeGood], HBW.out⟩
      · have e0 : ((n : Int) == 0) = false := by simp; omega
        go_wp2
        go_ret
        exact ⟨by simp [nodeGood, hn0], HBW.out⟩
    have f1 : ((k : Int) == 1) = false := by simp; omega
    by_cases k2 : k = 2
    · subst k2
      by_cases hn0 : n = 0
      · subst hn0
        go_wp2
        go_ret
        exact ⟨by simp [nodeGood], HBW.out⟩
      · have e0 : ((n : Int) == 0) = false := by simp; omega
        go_wp2
        go_ret
        exact ⟨by simp [nodeGood, hn0], HBW.out⟩
    have f2 : ((k : Int) == 2) = false := by simp; omega
    by_cases k3 : k = 3
    · subst k3
      by_cases hn0 : n = 0
      · subst hn0
        go_wp2
        go_ret
        exact ⟨by simp [nodeGood], HBW.out⟩
      · have e0 : ((n : Int) == 0) = false := by simp; omega
        go_wp2
        go_ret
        exact ⟨by simp [nodeGood, hn0], HBW.out⟩
    have f3 : ((k : Int) == 3) = false := by simp; omega
    by_cases k4 : k = 4
    · subst k4
      by_cases hn0 : n = 2
      · subst hn0
        go_wp2
        go_ret
        exact ⟨by simp [nodeGood], HBW.out⟩
      · have e0 : ((n : Int) == 2) = false := by simp; omega
        go_wp2
        go_ret
        exact ⟨by simp [nodeGood, hn0], HBW.out⟩
    have f4 : ((k : Int) == 4) = false := by simp; omega
    by_cases k5 : k = 5
    · subst k5
      by_cases hn0 : n = 2
      · subst hn0
        go_wp2
        go_ret
        exact ⟨by simp [nodeGood], HBW.out⟩
      · have e0 : ((n : Int) == 2) = false := by simp; omega
        go_wp2
        go_ret
        exact ⟨by simp [nodeGood, hn0], HBW.out⟩
    have f5 : ((k : Int) == 5) = false := by simp; omega
    by_cases k6 : k = 6
    · subst k6
      by_cases hn0 : n = 1
      · subst hn0
        go_wp2
        go_ret
        exact ⟨by simp [nodeGood], HBW.out⟩
      · have e0 : ((n : Int) == 1) = false := by simp; omega
        go_wp2
        go_ret
        exact ⟨by simp [nodeGood, hn0], HBW.out⟩
    have f6 : ((k : Int) == 6) = false := by simp; omega
    have HG := Lib.hid (show nodeGood k n q = false from by simp [nodeGood, k1, k2, k3, k4, k5, k6])
    clear k1 k2 k3 k4 k5 k6
    go_wp2
    go_ret
    exact ⟨by rw [HG.out]; rfl, HBW.out⟩
end Go.Proofs.YtiegejbbjlhpdaaGreatDoor
/- Lemmas of mine. -/
namespace Go.Proofs.YtiegejbbjlhpdaaGreatDoor
mutual
def goodR : Rx → Bool
  | .node k s ks => nodeGood k ks.length (bareB s) && goodRs ks
def goodRs : List Rx → Bool
  | [] => true
  | r :: rs => goodR r && goodRs rs
end
theorem goodRs_append (a b : List Rx) : goodRs (a ++ b) = (goodRs a && goodRs b) := by
  induction a with
  | nil => simp [goodRs]
  | cons x t ih => simp [goodRs, ih, Bool.and_assoc]
def mayN (r : Rx) (n : Nat) : Bool := goodR r && decide (r.size ≤ n)
def mayNs (l : List Rx) (n : Nat) : Bool := goodRs l && decide (Rx.sizes l ≤ n)
def mayR (r : Rx) : Bool := mayN r 2000
theorem mayNs_step {l : List Rx} {n i : Nat} (h : i < l.length) (ht : mayNs (l.take i) n = true) (hk : mayN l[i] (n - Rx.sizes (l.take i)) = true) : mayNs (l.take (i + 1)) n = true := by
  simp [mayNs, mayN] at *
  rw [sizes_take l i h, List.take_succ_eq_append_getElem h, goodRs_append]
  simp [goodRs, ht, hk]; omega
theorem mayNs_stop {l : List Rx} {n i : Nat} (h : i < l.length) (ht : mayNs (l.take i) n = true) (hk : mayN l[i] (n - Rx.sizes (l.take i)) = false) : mayNs l n = false := by
  have e := List.take_append_drop (i + 1) l
  have hs := sizes_append (l.take (i + 1)) (l.drop (i + 1))
  have hg := goodRs_append (l.take (i + 1)) (l.drop (i + 1))
  rw [e] at hs hg
  rw [sizes_take l i h] at hs
  rw [List.take_succ_eq_append_getElem h, goodRs_append] at hg
  simp only [goodRs, Bool.and_true] at hg
  simp only [mayNs, mayN, Bool.and_eq_true, Bool.and_eq_false_iff, decide_eq_true_eq, decide_eq_false_iff_not] at *
  rcases hk with hk | hk
  · left; rw [hg, hk]; simp
  · right; omega
end Go.Proofs.YtiegejbbjlhpdaaGreatDoor
/- Lemmas of mine. -/
namespace Go.Proofs.YtiegejbbjlhpdaaGreatDoor
inductive Ex where
  | empty
  | eps
  | cls (s : Ws)
  | seq (a b : Ex)
  | alt (a b : Ex)
  | star (a : Ex)
def Ex.rx : Ex → Rx
  | .empty => .node 1 Ws.nil []
  | .eps => .node 2 Ws.nil []
  | .cls s => .node 3 s []
  | .seq a b => .node 4 Ws.nil [a.rx, b.rx]
  | .alt a b => .node 5 Ws.nil [a.rx, b.rx]
  | .star a => .node 6 Ws.nil [a.rx]
def Ex.Wf : Ex → Prop
  | .empty => True
  | .eps => True
  | .cls s => s.Ok ∧ s ≠ Ws.nil
  | .seq a b => a.Wf ∧ b.Wf
  | .alt a b => a.Wf ∧ b.Wf
  | .star a => a.Wf
def Ex.size : Ex → Nat
  | .empty => 1
  | .eps => 1
  | .cls _ => 1
  | .seq a b => 1 + a.size + b.size
  | .alt a b => 1 + a.size + b.size
  | .star a => 1 + a.size
theorem Ex.size_rx : ∀ e : Ex, e.rx.size = e.size
  | .empty => by simp [Ex.rx, Rx.size, Rx.sizes, Ex.size]
  | .eps => by simp [Ex.rx, Rx.size, Rx.sizes, Ex.size]
  | .cls _ => by simp [Ex.rx, Rx.size, Rx.sizes, Ex.size]
  | .seq a b => by simp [Ex.rx, Rx.size, Rx.sizes, Ex.size, a.size_rx, b.size_rx]; omega
  | .alt a b => by simp [Ex.rx, Rx.size, Rx.sizes, Ex.size, a.size_rx, b.size_rx]; omega
  | .star a => by simp [Ex.rx, Rx.size, Rx.sizes, Ex.size, a.size_rx]
theorem Ex.rx_inj : ∀ e f : Ex, e.rx = f.rx → e = f
  | .empty, f, h => by cases f <;> simp_all [Ex.rx]
  | .eps, f, h => by cases f <;> simp_all [Ex.rx]
  | .cls _, f, h => by cases f <;> simp_all [Ex.rx]
  | .seq a b, f, h => by
    cases f with
    | seq c d =>
      simp [Ex.rx] at h
      rw [a.rx_inj c h.1, b.rx_inj d h.2]
    | _ => simp [Ex.rx] at h
  | .alt a b, f, h => by
    cases f with
    | alt c d =>
      simp [Ex.rx] at h
      rw [a.rx_inj c h.1, b.rx_inj d h.2]
    | _ => simp [Ex.rx] at h
  | .star a, f, h => by
    cases f with
    | star c =>
      simp [Ex.rx] at h
      rw [a.rx_inj c h]
    | _ => simp [Ex.rx] at h
def Rx.SetsOk : Rx → Prop
  | .node _ s ks => s.Ok ∧ ∀ k ∈ ks, k.SetsOk
theorem bare_nil {s : Ws} (h : bareB s = true) : s = Ws.nil := by
  unfold bareB at h
  exact sameW_iff.1 h
theorem goodRs_mem {l : List Rx} (h : goodRs l = true) : ∀ r ∈ l, goodR r = true := by
  induction l with
  | nil => intro r hr; cases hr
  | cons x t ih =>
    simp only [goodRs, Bool.and_eq_true] at h
    intro r hr
    rcases List.mem_cons.1 hr with rfl | hr
    · exact h.1
    · exact ih h.2 r hr
theorem ex_of_good (N : Nat) : ∀ r : Rx, r.size ≤ N → goodR r = true → r.SetsOk → ∃ e : Ex, e.rx = r ∧ e.Wf := by
  induction N with
  | zero => intro r h; have := r.size_pos; omega
  | succ N ih =>
    rintro ⟨k, s, ks⟩ hN hg hs
    have hN' : Rx.sizes ks ≤ N := by simp [Rx.size] at hN; omega
    unfold goodR at hg
    unfold Rx.SetsOk at hs
    rw [Bool.and_eq_true] at hg
    obtain ⟨hn, hks⟩ := hg
    have sub : ∀ r ∈ ks, ∃ e : Ex, e.rx = r ∧ e.Wf := fun r hr => by
      obtain ⟨i, hi, rfl⟩ := List.getElem_of_mem hr
      exact ih _ (Nat.le_trans (size_kid hi) hN') (goodRs_mem hks _ hr) (hs.2 _ hr)
    unfold nodeGood at hn
    by_cases h1 : k = 1 ∨ k = 2
    · rw [if_pos h1] at hn
      simp only [Bool.and_eq_true, decide_eq_true_eq] at hn
      obtain ⟨h2, h3⟩ := hn
      have hk := List.eq_nil_of_length_eq_zero h2
      have hb := bare_nil h3
      subst hk hb
      rcases h1 with rfl | rfl
      · exact ⟨.empty, rfl, trivial⟩
      · exact ⟨.eps, rfl, trivial⟩
    · rw [if_neg h1] at hn
      by_cases h2 : k = 3
      · rw [if_pos h2] at hn
        simp only [Bool.and_eq_true, decide_eq_true_eq, Bool.not_eq_true'] at hn
        have hk := List.eq_nil_of_length_eq_zero hn.1
        subst hk h2
        refine ⟨.cls s, rfl, hs.1, fun e => ?_⟩
        have := hn.2
        rw [e] at this
        exact absurd this (by decide)
      · rw [if_neg h2] at hn
        by_cases h3 : k = 4 ∨ k = 5
        · rw [if_pos h3] at hn
          simp only [Bool.and_eq_true, decide_eq_true_eq] at hn
          have hb := bare_nil hn.2
          subst hb
          match ks, hn.1 with
          | [a, b], _ =>
            obtain ⟨ea, rfl, wa⟩ := sub a (by simp)
            obtain ⟨eb, rfl, wb⟩ := sub b (by simp)
            rcases h3 with rfl | rfl
            · exact ⟨.seq ea eb, rfl, wa, wb⟩
            · exact ⟨.alt ea eb, rfl, wa, wb⟩
        · rw [if_neg h3] at hn
          by_cases h4 : k = 6
          · rw [if_pos h4] at hn
            simp only [Bool.and_eq_true, decide_eq_true_eq] at hn
            have hb := bare_nil hn.2
            subst hb h4
            match ks, hn.1 with
            | [a], _ =>
              obtain ⟨ea, rfl, wa⟩ := sub a (by simp)
              exact ⟨.star ea, rfl, wa⟩
          · rw [if_neg h4] at hn; exact absurd hn (by simp)
theorem good_ex : ∀ e : Ex, e.Wf → goodR e.rx = true
  | .empty, _ => by simp [Ex.rx, goodR, goodRs, nodeGood]; decide
  | .eps, _ => by simp [Ex.rx, goodR, goodRs, nodeGood]; decide
  | .cls s, h => by
    have : bareB s = false := by
      cases hb : bareB s with
      | false => rfl
      | true => exact absurd (bare_nil hb) h.2
    simp [Ex.rx, goodR, goodRs, nodeGood, this]
  | .seq a b, h => by
    have : bareB Ws.nil = true := by decide
    simp [Ex.rx, goodR, goodRs, nodeGood, this, good_ex a h.1, good_ex b h.2]
  | .alt a b, h => by
    have : bareB Ws.nil = true := by decide
    simp [Ex.rx, goodR, goodRs, nodeGood, this, good_ex a h.1, good_ex b h.2]
  | .star a, h => by
    have : bareB Ws.nil = true := by decide
    simp [Ex.rx, goodR, goodRs, nodeGood, this, good_ex a h]
end Go.Proofs.YtiegejbbjlhpdaaGreatDoor
/- Lemmas of mine. -/
namespace Go.Proofs.YtiegejbbjlhpdaaGreatDoor
def roundL (s : List UInt8) (b : Bool) : List UInt8 := if b = true then 40 :: (s ++ [41]) else s
def Ex.isAlt : Ex → Bool
  | .alt _ _ => true
  | _ => false
def Ex.isSeq : Ex → Bool
  | .seq _ _ => true
  | _ => false
def Ex.text : Ex → List UInt8
  | .empty => [91, 93]
  | .eps => [40, 41]
  | .cls s => textW s
  | .seq a b => roundL a.text (a.isSeq || a.isAlt) ++ roundL b.text b.isAlt
  | .alt a b => roundL a.text a.isAlt ++ 124 :: b.text
  | .star a => roundL a.text (a.isSeq || a.isAlt) ++ [42]
def Ex.item (e : Ex) : List UInt8 := roundL e.text (e.isSeq || e.isAlt)
def Ex.part (e : Ex) : List UInt8 := roundL e.text e.isAlt
theorem text_seq (a b : Ex) : (Ex.seq a b).text = a.item ++ b.part := rfl
theorem text_alt (a b : Ex) : (Ex.alt a b).text = a.part ++ 124 :: b.text := rfl
theorem text_star (a : Ex) : (Ex.star a).text = a.item ++ [42] := rfl
theorem item_star (a : Ex) : (Ex.star a).item = a.item ++ [42] := rfl
theorem item_seq (a b : Ex) : (Ex.seq a b).item = 40 :: ((Ex.seq a b).text ++ [41]) := rfl
theorem item_alt (a b : Ex) : (Ex.alt a b).item = 40 :: ((Ex.alt a b).text ++ [41]) := rfl
theorem part_seq (a b : Ex) : (Ex.seq a b).part = a.item ++ b.part := rfl
theorem part_text {e : Ex} (h : e.isAlt = false) : e.part = e.text := by unfold Ex.part roundL; rw [h]; rfl
def Starts (c : UInt8) : Prop := c ≠ 41 ∧ c ≠ 42 ∧ c ≠ 124 ∧ c ≠ 93
theorem sign_start : ∀ n : Fin 256, ∃ c t, signL n.1 = c :: t ∧ c ≠ 41 ∧ c ≠ 42 ∧ c ≠ 124 ∧ c ≠ 93 ∧ c ≠ 40 ∧ c ≠ 91 ∧ c ≠ 46 := by
  intro n
  have h : ∀ n : Fin 256, (signL n.1).headD 0 ≠ 41 ∧ (signL n.1).headD 0 ≠ 42 ∧ (signL n.1).headD 0 ≠ 124 ∧ (signL n.1).headD 0 ≠ 93 ∧ (signL n.1).headD 0 ≠ 40 ∧ (signL n.1).headD 0 ≠ 91 ∧ (signL n.1).headD 0 ≠ 46 := by decide +kernel
  have h2 := h n
  have hl := (signL_length n.1).2
  match hs : signL n.1, hl with
  | c :: t, _ =>
    rw [hs] at h2
    exact ⟨c, t, rfl, h2⟩
theorem sign_no93 : ∀ n : Fin 256, ∀ c ∈ signL n.1, c ≠ 93 := by decide +kernel
theorem textOf_no93 : ∀ (k : Nat) (l : List Nat), l.length ≤ k → (∀ x ∈ l, x < 256) → ∀ c ∈ textOf l, c ≠ 93
  | 0, l, h, _ => by
    have : l = [] := List.eq_nil_of_length_eq_zero (by omega)
    subst this
    simp [textOf_nil]
  | k + 1, [], _, _ => by simp [textOf_nil]
  | k + 1, x :: l, h, hl => by
    have hx := hl x (List.mem_cons_self ..)
    simp at h
    have hrest : ∀ y ∈ l.drop (runFrom x l), y < 256 := fun y hy => hl y (List.mem_cons_of_mem _ (List.mem_of_mem_drop hy))
    have ih := textOf_no93 k (l.drop (runFrom x l)) (by simp; omega) hrest
    have htk := runFrom_take x l
    intro c hc
    rw [textOf_cons] at hc
    rcases List.mem_append.1 hc with hc | hc
    · have hin : ∀ j, 1 ≤ j → j ≤ runFrom x l → x + j < 256 := fun j h1 h2 => by
        have : x + j ∈ l.take (runFrom x l) := by rw [htk]; simp [List.mem_range'_1]; omega
        exact hl _ (List.mem_cons_of_mem _ (List.mem_of_mem_take this))
      unfold segL at hc
      split at hc
      · rename_i h3
        have hm := hin (runFrom x l) (by omega) (Nat.le_refl _)
        rcases List.mem_append.1 hc with hc | hc
        · exact sign_no93 ⟨x, hx⟩ c hc
        · rcases List.mem_cons.1 hc with rfl | hc
          · decide
          · exact sign_no93 ⟨x + (1 + runFrom x l) - 1, by omega⟩ c hc
      · split at hc
        · rename_i h2
          have hm := hin 1 (Nat.le_refl _) (by omega)
          rcases List.mem_append.1 hc with hc | hc
          · exact sign_no93 ⟨x, hx⟩ c hc
          · exact sign_no93 ⟨x + 1, hm⟩ c hc
        · exact sign_no93 ⟨x, hx⟩ c hc
    · exact ih c hc
theorem bytes_ne {s : Ws} (hs : s.Ok) (h : s ≠ Ws.nil) : bytesN s ≠ [] := fun e => h (bytesN_inj hs Ws.nil_ok (by rw [e]; decide))
theorem textW_cases {s : Ws} (hs : s.Ok) (h : s ≠ Ws.nil) : textW s = [46] ∨ (∃ n : Fin 256, textW s = signL n.1) ∨ ∃ a, textW s = 91 :: (a ++ [93]) ∧ (∀ c ∈ a, c ≠ 93) ∧ a ≠ [] := by
  unfold textW
  split
  · exact .inl rfl
  · split
    · rename_i h1
      obtain ⟨x, hx⟩ := List.length_eq_one_iff.1 h1
      have hlt : x < 256 := bytesN_lt s x (by rw [hx]; simp)
      exact .inr (.inl ⟨⟨x, hlt⟩, by rw [hx]; rfl⟩)
    · refine .inr (.inr ⟨_, rfl, textOf_no93 _ _ (Nat.le_refl _) (bytesN_lt s), ?_⟩)
      have hne := bytes_ne hs h
      match hb : bytesN s, hne with
      | x :: l, _ =>
        rw [textOf_cons]
        intro e
        have h1 := (List.append_eq_nil_iff.1 e).1
        have h2 := signL_length x
        unfold segL at h1
        split at h1
        · rw [(List.append_eq_nil_iff.1 h1).1] at h2; simp at h2
        · split at h1
          · rw [(List.append_eq_nil_iff.1 h1).1] at h2; simp at h2
          · rw [h1] at h2; simp at h2
theorem textW_start {s : Ws} (hs : s.Ok) (h : s ≠ Ws.nil) : ∃ c t, textW s = c :: t ∧ Starts c ∧ c ≠ 40 := by
  rcases textW_cases hs h with e | ⟨n, e⟩ | ⟨a, e, _, _⟩
  · exact ⟨_, _, e, by unfold Starts; decide, by decide⟩
  · obtain ⟨c, u, hc, h1, h2, h3, h4, h5, _⟩ := sign_start n
    exact ⟨c, u, by rw [e, hc], ⟨h1, h2, h3, h4⟩, h5⟩
  · exact ⟨_, _, e, by unfold Starts; decide, by decide⟩
theorem start_round {s : List UInt8} {b : Bool} (h : ∃ c t, s = c :: t ∧ Starts c) : ∃ c t, roundL s b = c :: t ∧ Starts c := by
  unfold roundL
  split
  · exact ⟨_, _, rfl, by unfold Starts; decide⟩
  · exact h
theorem start_app {s x : List UInt8} (h : ∃ c t, s = c :: t ∧ Starts c) : ∃ c t, s ++ x = c :: t ∧ Starts c := by
  obtain ⟨c, t, rfl, hc⟩ := h
  exact ⟨c, t ++ x, rfl, hc⟩
theorem text_start : ∀ e : Ex, e.Wf → ∃ c t, e.text = c :: t ∧ Starts c
  | .empty, _ => ⟨_, _, rfl, by unfold Starts; decide⟩
  | .eps, _ => ⟨_, _, rfl, by unfold Starts; decide⟩
  | .cls s, h => by
    obtain ⟨c, t, e, hc, _⟩ := textW_start h.1 h.2
    exact ⟨c, t, e, hc⟩
  | .seq a b, h => start_app (start_round (text_start a h.1))
  | .alt a b, h => start_app (start_round (text_start a h.1))
  | .star a, h => start_app (start_round (text_start a h))
theorem part_start {e : Ex} (h : e.Wf) : ∃ c t, e.part = c :: t ∧ Starts c := start_round (text_start e h)
def Term0 (x : List UInt8) : Prop := x = [] ∨ ∃ t, x = 41 :: t
def Term1 (x : List UInt8) : Prop := x = [] ∨ (∃ t, x = 41 :: t) ∨ ∃ t, x = 124 :: t
def NoStar (x : List UInt8) : Prop := ∀ t, x ≠ 42 :: t
theorem Term1.noStar {x : List UInt8} (h : Term1 x) : NoStar x := by
  rintro t rfl
  rcases h with h | ⟨u, h⟩ | ⟨u, h⟩ <;> simp at h
theorem noStar_part {e : Ex} (h : e.Wf) (x : List UInt8) : NoStar (e.part ++ x) := by
  obtain ⟨c, t, e1, hc⟩ := start_app (x := x) (part_start h)
  rintro u hu
  rw [e1] at hu
  simp at hu
  exact hc.2.1 hu.1
def Ex.isStar : Ex → Bool
  | .star _ => true
  | _ => false
theorem Term0.one {x : List UInt8} (h : Term0 x) : Term1 x := by
  rcases h with h | h
  · exact .inl h
  · exact .inr (.inl h)
theorem round_length (s : List UInt8) (b : Bool) : (roundL s b).length ≤ s.length + 2 := by
  unfold roundL; split <;> simp
theorem text_length : ∀ e : Ex, e.text.length ≤ 2010 * e.size
  | .empty => by simp [Ex.text, Ex.size]
  | .eps => by simp [Ex.text, Ex.size]
  | .cls s => by have := textW_length s; simp [Ex.text, Ex.size]; omega
  | .seq a b => by
    have h1 := text_length a
    have h2 := text_length b
    have h3 := round_length a.text (a.isSeq || a.isAlt)
    have h4 := round_length b.text b.isAlt
    simp [Ex.text, Ex.size]; omega
  | .alt a b => by
    have h1 := text_length a
    have h2 := text_length b
    have h3 := round_length a.text a.isAlt
    simp [Ex.text, Ex.size]; omega
  | .star a => by
    have h1 := text_length a
    have h3 := round_length a.text (a.isSeq || a.isAlt)
    simp [Ex.text, Ex.size]; omega
theorem text_ne {e : Ex} (h : e.Wf) : e.text ≠ [] := by
  obtain ⟨c, t, e1, _⟩ := text_start e h
  rw [e1]; simp
end Go.Proofs.YtiegejbbjlhpdaaGreatDoor
/- Lemmas of mine. -/
namespace Go.Proofs.YtiegejbbjlhpdaaGreatDoor
def Ex.nul : Ex → Bool
  | .empty => false
  | .eps => true
  | .cls _ => false
  | .seq a b => a.nul && b.nul
  | .alt a b => a.nul || b.nul
  | .star _ => true
def Ex.fit : Ex → Bool
  | .empty => false
  | .eps => true
  | .cls _ => true
  | .seq a b => a.fit && b.fit
  | .alt a b => a.fit || b.fit
  | .star _ => true
def Ex.fst : Ex → Ws
  | .empty => Ws.nil
  | .eps => Ws.nil
  | .cls s => s
  | .seq a b => if (a.fit && b.fit) = true then (if a.nul = true then a.fst.join b.fst else a.fst) else Ws.nil
  | .alt a b => if (a.fit || b.fit) = true then a.fst.join b.fst else Ws.nil
  | .star a => a.fst
end Go.Proofs.YtiegejbbjlhpdaaGreatDoor
/- Lemmas of mine. -/
namespace Go.Proofs.YtiegejbbjlhpdaaGreatDoor
theorem Ws.nil_join (s : Ws) : Ws.nil.join s = s := by
  obtain ⟨a, b, c, d⟩ := s
  simp [Ws.join, Ws.nil]
instance decWs (s t : Ws) : Decidable (s = t) :=
  if h : s.a = t.a ∧ s.b = t.b ∧ s.c = t.c ∧ s.d = t.d then .isTrue (by cases s; cases t; simp at h; simp [h]) else .isFalse (fun e => h (by simp [e]))
open Go.RowKit
def Room (w : World) (g n : Nat) : Prop := ∃ arr, w.heap[g]? = some (.cells arr 27) ∧ arr.size = n
theorem Room.lt {w : World} {g n : Nat} (h : Room w g n) : g < w.heap.size := by
  obtain ⟨arr, h, _⟩ := h
  exact (Array.getElem?_eq_some_iff.1 h).1
theorem Room.of {w w' : World} {g n : Nat} (h : Room w g n) (e : w'.heap[g]? = w.heap[g]?) : Room w' g n := by
  obtain ⟨arr, h, hs⟩ := h
  exact ⟨arr, e.trans h, hs⟩
theorem Room.cells {w : World} {g n : Nat} (h : Room w g n) (o : Nat) (ho : o < n) : (∃ v, w.cell? ⟨g, o, none⟩ = some v) ∧ w.frozen? ⟨g, o, none⟩ = false := by
  obtain ⟨arr, h, hs⟩ := h
  refine ⟨⟨arr[o]'(by omega), ?_⟩, Lib.frozen_of_heap h o⟩
  rw [Lib.cell_of_heap h]
  simp [hs, ho]
theorem setCell_at {w : World} {g : Nat} {arr : Array Value} (h : w.heap[g]? = some (.cells arr 27)) (o : Nat) (y : Value) : (w.setCell ⟨g, o, none⟩ y).heap[g]? = some (.cells (arr.setIfInBounds o y) 27) := by
  simp [World.setCell, Array.getElem?_modify, h]
def put6 (w : World) (g off : Nat) (y0 y1 y2 y3 y4 y5 : Value) : World := (((((w.setCell ⟨g, off, none⟩ y0).setCell ⟨g, off + 1, none⟩ y1).setCell ⟨g, off + 2, none⟩ y2).setCell ⟨g, off + 3, none⟩ y3).setCell ⟨g, off + 4, none⟩ y4).setCell ⟨g, off + 5, none⟩ y5
theorem put6_size (w : World) (g off : Nat) (y0 y1 y2 y3 y4 y5 : Value) : (put6 w g off y0 y1 y2 y3 y4 y5).heap.size = w.heap.size := by simp [put6, World.setCell]
theorem put6_other (w : World) (g off : Nat) (y0 y1 y2 y3 y4 y5 : Value) {b : Nat} (hb : b ≠ g) : (put6 w g off y0 y1 y2 y3 y4 y5).heap[b]? = w.heap[b]? := by
  unfold put6
  rw [Below.heap_setCell _ _ _ _ hb, Below.heap_setCell _ _ _ _ hb, Below.heap_setCell _ _ _ _ hb, Below.heap_setCell _ _ _ _ hb, Below.heap_setCell _ _ _ _ hb, Below.heap_setCell _ _ _ _ hb]
theorem put6_at {w : World} {g n off : Nat} (h : Room w g n) (ho : off + 6 ≤ n) (y0 y1 y2 y3 y4 y5 : Value) :
    Room (put6 w g off y0 y1 y2 y3 y4 y5) g n ∧
    ((put6 w g off y0 y1 y2 y3 y4 y5).cell? ⟨g, off, none⟩ = some y0 ∧ (put6 w g off y0 y1 y2 y3 y4 y5).cell? ⟨g, off + 1, none⟩ = some y1 ∧ (put6 w g off y0 y1 y2 y3 y4 y5).cell? ⟨g, off + 2, none⟩ = some y2 ∧ (put6 w g off y0 y1 y2 y3 y4 y5).cell? ⟨g, off + 3, none⟩ = some y3 ∧ (put6 w g off y0 y1 y2 y3 y4 y5).cell? ⟨g, off + 4, none⟩ = some y4 ∧ (put6 w g off y0 y1 y2 y3 y4 y5).cell? ⟨g, off + 5, none⟩ = some y5) ∧
    ∀ o, o < off ∨ off + 6 ≤ o → (put6 w g off y0 y1 y2 y3 y4 y5).cell? ⟨g, o, none⟩ = w.cell? ⟨g, o, none⟩ := by
  obtain ⟨arr, h, hs⟩ := h
  have e := setCell_at (setCell_at (setCell_at (setCell_at (setCell_at (setCell_at h off y0) (off + 1) y1) (off + 2) y2) (off + 3) y3) (off + 4) y4) (off + 5) y5
  have c := fun o => Lib.cell_of_heap (w := put6 w g off y0 y1 y2 y3 y4 y5) (j := o) e
  refine ⟨⟨_, e, by simp [hs]⟩, ⟨?_, ?_, ?_, ?_, ?_, ?_⟩, ?_⟩
  · rw [c]; simp [Array.getElem?_setIfInBounds, hs]; omega
  · rw [c]; simp [Array.getElem?_setIfInBounds, hs]; omega
  · rw [c]; simp [Array.getElem?_setIfInBounds, hs]; omega
  · rw [c]; simp [Array.getElem?_setIfInBounds, hs]; omega
  · rw [c]; simp [Array.getElem?_setIfInBounds, hs]; omega
  · rw [c]; simp [Array.getElem?_setIfInBounds, hs]; omega
  · intro o h'
    rw [c, Lib.cell_of_heap h]
    have n0 : ¬ off = o := by omega
    have n1 : ¬ off + 1 = o := by omega
    have n2 : ¬ off + 2 = o := by omega
    have n3 : ¬ off + 3 = o := by omega
    have n4 : ¬ off + 4 = o := by omega
    have n5 : ¬ off + 5 = o := by omega
    simp [n0, n1, n2, n3, n4, n5]
theorem put6_below {w w' : World} {B g : Nat} (h : Below B w w') (hg : B ≤ g) (off : Nat) (y0 y1 y2 y3 y4 y5 : Value) : Below B w (put6 w' g off y0 y1 y2 y3 y4 y5) :=
  (((((h.setCell (p := ⟨g, off, none⟩) hg _).setCell (p := ⟨g, off + 1, none⟩) hg _).setCell (p := ⟨g, off + 2, none⟩) hg _).setCell (p := ⟨g, off + 3, none⟩) hg _).setCell (p := ⟨g, off + 4, none⟩) hg _).setCell (p := ⟨g, off + 5, none⟩) hg _
theorem NodeAt.cells {ok ok' : Nat → Prop} {w w' : World} {b off : Nat} {r : Rx} (h : NodeAt ok w b off r) (hk : Kept ok ok' w w') (hc : ∀ o, off ≤ o → o < off + 6 → w'.cell? ⟨b, o, none⟩ = w.cell? ⟨b, o, none⟩) : NodeAt ok' w' b off r := by
  obtain ⟨k, s, ks⟩ := r
  unfold NodeAt at h ⊢
  obtain ⟨h0, hs, ⟨c0, c1, c2, c3, c4⟩, al, cap, c5, h1, h2, h3⟩ := h
  refine ⟨h0, hs, ⟨by rw [hc _ (by omega) (by omega)]; exact c0, by rw [hc _ (by omega) (by omega)]; exact c1, by rw [hc _ (by omega) (by omega)]; exact c2, by rw [hc _ (by omega) (by omega)]; exact c3, by rw [hc _ (by omega) (by omega)]; exact c4⟩, al, cap, by rw [hc _ (by omega) (by omega)]; exact c5, h1, h2, ?_⟩
  rcases h3 with h3 | ⟨b', off', e1, e2, e3, e4⟩
  · exact .inl h3
  · have hh := hk.2 b' e2 e3
    exact .inr ⟨b', off', e1, Nat.lt_of_lt_of_le e2 hk.1, hh.1, NodesAt.go hk ks hh.2 e4⟩
theorem nodes_push {ok : Nat → Prop} {w : World} {g n : Nat} {l : List Rx} {r : Rx} {x0 x1 x2 x3 x4 x5 : Value} (hr : Room w g n) (hl : (l.length + 1) * 6 ≤ n) (hg : ¬ ok g) (h : NodesAt ok w g 0 l) (hv : ReAt ok w (.agg #[x0, x1, x2, x3, x4, x5]) r) :
    NodesAt ok (put6 w g (l.length * 6) x0 x1 x2 x3 x4 x5) g 0 (l ++ [r]) := by
  obtain ⟨hR, ⟨c0, c1, c2, c3, c4, c5⟩, hfar⟩ := put6_at hr (off := l.length * 6) (by omega) x0 x1 x2 x3 x4 x5
  have hk : Kept ok ok w (put6 w g (l.length * 6) x0 x1 x2 x3 x4 x5) := ⟨by rw [put6_size]; exact Nat.le_refl _, fun b _ hb => ⟨hb, put6_other _ _ _ _ _ _ _ _ _ (fun e => hg (e ▸ hb))⟩⟩
  refine nodesAt_of fun i hi => ?_
  by_cases e : i < l.length
  · rw [List.getElem_append_left e]
    exact (nodesAt_get h i e).cells hk fun o h1 h2 => hfar o (.inl (by omega))
  · have : i = l.length := by simp at hi; omega
    subst this
    rw [List.getElem_append_right (Nat.le_refl _)]
    simp only [Nat.sub_self, List.getElem_cons_zero, Nat.zero_add]
    exact node_at (hv.go hk) c0 c1 c2 c3 c4 c5
theorem room_made (w : World) (z : Array Value) (n : Nat) : Room (w.alloc (.cells (madeCells z n) 27)) w.heap.size n := ⟨_, blk_new w _, size_madeCells z n⟩
def zeroR : Array Value := #[.int .u8 0, .int .u64 0, .int .u64 0, .int .u64 0, .int .u64 0, .slice none 0 0]
theorem make_re (n : Nat) (hn : n < 2199023255552) (u : World) : (Instr.makeSlice 25 (.int .i64 (n : Int)) (.int .i64 (n : Int))).run Tryz.prog u =
    .ok (.slice (some ⟨u.heap.size, 0, none⟩) n n) (u.alloc (.cells (madeCells zeroR (n * 6)) 27)) := by
  obtain ⟨i0, hi, hz0, hz1, hz2⟩ := info_parts infoR
  have h := run_make (P := Tryz.prog) u 25 27 i0 _ Tryz.underlying25 hi hz0 .i64 .i64 (n : Int) (n : Int) (by omega) (Int.le_refl _) (by rw [hz2]; omega) (by omega)
  simpa [hz1, Value.cells, zeroR] using h
open Go.RowKit
def nilBlk : Obj := .cells #[.int .u8 0, .int .u64 0, .int .u64 0, .int .u64 0, .int .u64 0, .slice none 0 0] 27
def reBlk (k a b c d : Nat) (sl : Value) : Obj := .cells #[.int .u8 k, .int .u64 a, .int .u64 b, .int .u64 c, .int .u64 d, sl] 27
def cloneInv (k a b c d : Nat) (sl : Value) (ks : List Rx) (w : World) (y : Value) (wr : World) : Prop := ∃ i : Nat, i ≤ ks.length ∧ y = .int .i64 i ∧
  wr.heap[w.heap.size]? = some (reBlk k a b c d sl) ∧ wr.heap[w.heap.size + 1]? = some nilBlk ∧ Room wr (w.heap.size + 2) (ks.length * 6) ∧
  NodesAt (New (w.heap.size + 3)) wr (w.heap.size + 2) 0 (ks.take i) ∧ Below w.heap.size w wr
set_option maxHeartbeats 4000000 in
theorem clone_any (N : Nat) : ∀ (r : Rx), r.size ≤ N → ∀ (ok : Nat → Prop) (v : Value) (w : World), ReAt ok w v r →
    Calls Tryz.prog 88 #[v] w (NewPost r w) := by
  induction N with
  | zero => intro r h; have := r.size_pos; omega
  | succ N ih =>
    rintro ⟨k, s, ks⟩ hN ok v w hR
    obtain ⟨hk, hs, al, cap, rfl, hcap, hmax, hrow⟩ := hR
    have hN' : Rx.sizes ks ≤ N := by simp [Rx.size] at hN; omega
    have IH := Lib.hid ih
    have HR := Lib.hid hrow
    obtain ⟨sa, sb, sc, sd⟩ := s
    clear ih hrow hN
    by_cases hks : ks = []
    · subst hks
      go_enter Tryz.func88, Tryz.ntmps88
      go_wp2
      refine ret_re (blk_at _ _ (by simp)) Tryz.results88 rfl rfl ⟨_, rfl, ?_, ((Below.refl _ w).alloc (Nat.le_refl _) _).alloc (by simp) _⟩
      exact bareAt _ _ k ⟨sa, sb, sc, sd⟩ hk hs
    · have hpos : 0 < ks.length := List.length_pos_iff.2 hks
      have e0 : ((ks.length : Int) == 0) = false := by simp; omega
      have hmk := make_re ks.length hmax
      clear hks
      go_enter Tryz.func88, Tryz.ntmps88
      go_wp2
      go_loopw [19] (fun y wr => cloneInv k sa sb sc sd (.slice al ks.length cap) ks w y wr) (fun y _ => ks.length - (intOf y).toNat)
      case atStart =>
        refine ⟨0, Nat.zero_le _, rfl, ?_, ?_, ?_, by simp only [List.take_zero]; unfold NodesAt; trivial, (((Below.refl _ w).alloc (Nat.le_refl _) _).alloc (by simp) _).alloc (by simp; omega) _⟩
        · exact (Below.heap_alloc _ _ _ (by simp; omega)).trans ((Below.heap_alloc _ _ _ (by simp)).trans (blk_new w _))
        · exact (Below.heap_alloc _ _ _ (by simp)).trans (blk_at _ _ (by simp))
        · have := room_made ((w.alloc (reBlk k sa sb sc sd (.slice al ks.length cap))).alloc nilBlk) zeroR (ks.length * 6)
          simpa [reBlk, nilBlk] using this
      case round =>
        obtain ⟨i, hi, rfl, hb0, hb1, hroom, hnodes, hb⟩ := hrel
        have HB0 := Lib.hid hb0
        have HB1 := Lib.hid hb1
        have HN := Lib.hid hnodes
        have HM := Lib.hid hroom
        clear hb0 hb1 hnodes hroom
        by_cases hlt : i < ks.length
        · obtain ⟨b, off, hab, hblt, hnode⟩ := HR.out.kid hlt
          subst hab
          have hkid := NodeAt.below hb _ hblt hnode
          have hkz := size_kid hlt
          have htk : ks.take (i + 1) = ks.take i ++ [ks[i]] := List.take_succ_eq_append_getElem hlt
          have hlen : (ks.take i).length = i := by simp; omega
          have HTK := Lib.hid htk
          have HLEN := Lib.hid hlen
          clear htk hlen
          generalize ks[i] = kid at *
          obtain ⟨k', ⟨ta, tb, tc, td⟩, ks'⟩ := kid
          obtain ⟨al', cap', ⟨c0, c1, c2, c3, c4, c5⟩, hre⟩ := hkid.read
          simp only at c0 c1 c2 c3 c4 c5
          have HRE := Lib.hid hre
          clear hkid hnode hre
          go_wp2_with fail
          refine (IH.out _ (by omega) ok _ _ (HRE.out.below ((Below.refl _ wr).alloc (Nat.le_refl _) _))).mono ?_
          rintro e w3 ⟨v, rfl, hv, hb3⟩
          obtain ⟨x0, x1, x2, x3, x4, bl, n', cp, rfl⟩ := cells_re hv
          have hgk := HM.out.lt
          have hbr : Below wr.heap.size wr w3 := ((Below.refl _ wr).alloc (Nat.le_refl _) _).trans (hb3.mono (by simp))
          have hroom : Room w3 (w.heap.size + 1 + 1) (ks.length * 6) := HM.out.of (hbr.block _ hgk)
          have hnodes : NodesAt (New (w.heap.size + 3)) w3 (w.heap.size + 1 + 1) 0 (ks.take i) := NodesAt.below hbr _ hgk HN.out
          have hv3 := hv.imp (ok' := New (w.heap.size + 3)) fun b _ h => by
            unfold New at h ⊢; simp at h; omega
          have hlen := HLEN.out
          have hpush := nodes_push hroom (by rw [hlen]; omega) (by unfold New; omega) hnodes hv3
          rw [hlen, ← HTK.out] at hpush
          have hput := (put6_at hroom (off := i * 6) (by omega) (.int .u8 x0) (.int .u64 x1) (.int .u64 x2) (.int .u64 x3) (.int .u64 x4) (.slice bl n' cp)).1
          have hbp := put6_below (hb.trans (hbr.mono hb.size)) (g := w.heap.size + 1 + 1) (by omega) (i * 6) (.int .u8 x0) (.int .u64 x1) (.int .u64 x2) (.int .u64 x3) (.int .u64 x4) (.slice bl n' cp)
          have ho := fun b (h : b ≠ w.heap.size + 1 + 1) => put6_other w3 (w.heap.size + 1 + 1) (i * 6) (.int .u8 x0) (.int .u64 x1) (.int .u64 x2) (.int .u64 x3) (.int .u64 x4) (.slice bl n' cp) h
          have h0 := (ho w.heap.size (by omega)).trans ((hbr.block _ (by omega)).trans HB0.out)
          have h1 := (ho (w.heap.size + 1) (by omega)).trans ((hbr.block _ (by omega)).trans HB1.out)
          obtain ⟨⟨z0, q0⟩, f0⟩ := hroom.cells (i * 6) (by omega)
          obtain ⟨⟨z1, q1⟩, f1⟩ := hroom.cells (i * 6 + 1) (by omega)
          obtain ⟨⟨z2, q2⟩, f2⟩ := hroom.cells (i * 6 + 2) (by omega)
          obtain ⟨⟨z3, q3⟩, f3⟩ := hroom.cells (i * 6 + 3) (by omega)
          obtain ⟨⟨z4, q4⟩, f4⟩ := hroom.cells (i * 6 + 4) (by omega)
          obtain ⟨⟨z5, q5⟩, f5⟩ := hroom.cells (i * 6 + 5) (by omega)
          unfold put6 at hpush hput hbp h0 h1
          have HPUSH := Lib.hid hpush
          have HPUT := Lib.hid hput
          have HBP := Lib.hid hbp
          have H0 := Lib.hid h0
          have H1 := Lib.hid h1
          clear hv hb3 hbr hroom hnodes hv3 hlen hpush hput hbp ho h0 h1 c0 c1 c2 c3 c4 c5
          go_wp2
          exact ⟨⟨i + 1, by omega, by go_num, H0.out, H1.out, HPUT.out, HPUSH.out, HBP.out⟩, by simp [intOf]; omega⟩
        · have he : ks.take i = ks := List.take_of_length_le (by omega)
          rw [he] at HN
          obtain ⟨d0, d1, d2, d3, d4, d5, f0, f1, f2, f3, f4, f5⟩ := cellsR HB0.out
          obtain ⟨g0, g1, g2, g3, g4, g5, p0, p1, p2, p3, p4, p5⟩ := cellsR HB1.out
          have hgk := HM.out.lt
          have hb4 : (wr.setCell ⟨w.heap.size, 5, none⟩ (.slice (some ⟨w.heap.size + 1 + 1, 0, none⟩) ks.length ks.length)).heap[w.heap.size + 1]? = some nilBlk := (Below.heap_setCell _ _ _ _ (by simp)).trans HB1.out
          have hp := putR hb4 (.int .u8 k) (.int .u64 sa) (.int .u64 sb) (.int .u64 sc) (.int .u64 sd) (.slice (some ⟨w.heap.size + 1 + 1, 0, none⟩) ks.length ks.length)
          have hbb := putB (hb.setCell (p := ⟨w.heap.size, 5, none⟩) (Nat.le_refl _) (.slice (some ⟨w.heap.size + 1 + 1, 0, none⟩) ks.length ks.length)) (by omega : w.heap.size ≤ w.heap.size + 1) (.int .u8 k) (.int .u64 sa) (.int .u64 sb) (.int .u64 sc) (.int .u64 sd) (.slice (some ⟨w.heap.size + 1 + 1, 0, none⟩) ks.length ks.length)
          have hfar : ∀ b, b ≠ w.heap.size → b ≠ w.heap.size + 1 → (putW (wr.setCell ⟨w.heap.size, 5, none⟩ (.slice (some ⟨w.heap.size + 1 + 1, 0, none⟩) ks.length ks.length)) (w.heap.size + 1) (.int .u8 k) (.int .u64 sa) (.int .u64 sb) (.int .u64 sc) (.int .u64 sd) (.slice (some ⟨w.heap.size + 1 + 1, 0, none⟩) ks.length ks.length)).heap[b]? = wr.heap[b]? := by
            intro b n0 n1
            unfold putW
            rw [Below.heap_setCell _ _ _ _ n1, Below.heap_setCell _ _ _ _ n1, Below.heap_setCell _ _ _ _ n1, Below.heap_setCell _ _ _ _ n1, Below.heap_setCell _ _ _ _ n1, Below.heap_setCell _ _ _ _ n1, Below.heap_setCell _ _ _ _ n0]
          have hsz : (putW (wr.setCell ⟨w.heap.size, 5, none⟩ (.slice (some ⟨w.heap.size + 1 + 1, 0, none⟩) ks.length ks.length)) (w.heap.size + 1) (.int .u8 k) (.int .u64 sa) (.int .u64 sb) (.int .u64 sc) (.int .u64 sd) (.slice (some ⟨w.heap.size + 1 + 1, 0, none⟩) ks.length ks.length)).heap.size = wr.heap.size := by simp [putW, World.setCell]
          have hrow : RowAt (New w.heap.size) (putW (wr.setCell ⟨w.heap.size, 5, none⟩ (.slice (some ⟨w.heap.size + 1 + 1, 0, none⟩) ks.length ks.length)) (w.heap.size + 1) (.int .u8 k) (.int .u64 sa) (.int .u64 sb) (.int .u64 sc) (.int .u64 sd) (.slice (some ⟨w.heap.size + 1 + 1, 0, none⟩) ks.length ks.length)) (some ⟨w.heap.size + 1 + 1, 0, none⟩) ks := by
            refine .inr ⟨_, _, rfl, by rw [hsz]; exact hgk, by unfold New; omega, NodesAt.go (ok := New (w.heap.size + 3)) ⟨by rw [hsz]; exact Nat.le_refl _, fun b _ h => ?_⟩ ks (hfar _ (by omega) (by omega)) HN.out⟩
            unfold New at h
            exact ⟨by unfold New; omega, hfar b (by omega) (by omega)⟩
          unfold putW at hp hbb hrow
          have HP := Lib.hid hp
          have HBB := Lib.hid hbb
          have HROW := Lib.hid hrow
          clear hp hbb hrow hfar hsz hb4
          go_wp2
          exact ret_re HP.out Tryz.results88 rfl rfl ⟨_, rfl, ⟨hk, hs, _, _, rfl, Nat.le_refl _, hmax, HROW.out⟩, HBB.out⟩
theorem cloneR (r : Rx) {ok : Nat → Prop} (v : Value) (w : World) (h : ReAt ok w v r) : Calls Tryz.prog 88 #[v] w (NewPost r w) := clone_any r.size r (Nat.le_refl _) ok v w h
open Go.RowKit
def foldR (k o : Nat) : List Rx → Rx
  | [] => .node o Ws.nil []
  | [r] => r
  | r :: r' :: rs => .node k Ws.nil [r, foldR k o (r' :: rs)]
theorem foldR_cons (k o : Nat) (r : Rx) {l : List Rx} (h : l ≠ []) : foldR k o (r :: l) = .node k Ws.nil [r, foldR k o l] := by
  cases l with
  | nil => exact absurd rfl h
  | cons a t => rfl
def Own (n g b : Nat) : Prop := n + 1 ≤ b ∧ b ≠ g
def chainInv (k o : Nat) (l : List Rx) (w : World) (g : Nat) (y : Value) (wr : World) : Prop := ∃ (j : Nat) (v : Value) (x0 x1 x2 x3 x4 : Int) (al : Option Addr) (n cap : Nat), j < l.length ∧ y = .int .i64 ((j : Int) - 1) ∧
  v = .agg #[.int .u8 x0, .int .u64 x1, .int .u64 x2, .int .u64 x3, .int .u64 x4, .slice al n cap] ∧
  wr.heap[g]? = some (.cells #[.int .u8 x0, .int .u64 x1, .int .u64 x2, .int .u64 x3, .int .u64 x4, .slice al n cap] 27) ∧ wr.heap[w.heap.size]? = some nilBlk ∧
  ReAt (Own w.heap.size g) wr v (foldR k o (l.drop j)) ∧ Below w.heap.size w wr
theorem putW_size (w : World) (g : Nat) (y0 y1 y2 y3 y4 y5 : Value) : (putW w g y0 y1 y2 y3 y4 y5).heap.size = w.heap.size := by simp [putW, World.setCell]
theorem putW_other (w : World) (g : Nat) (y0 y1 y2 y3 y4 y5 : Value) {b : Nat} (h : b ≠ g) : (putW w g y0 y1 y2 y3 y4 y5).heap[b]? = w.heap[b]? := by
  unfold putW
  rw [Below.heap_setCell _ _ _ _ h, Below.heap_setCell _ _ _ _ h, Below.heap_setCell _ _ _ _ h, Below.heap_setCell _ _ _ _ h, Below.heap_setCell _ _ _ _ h, Below.heap_setCell _ _ _ _ h]
def chainW (w' : World) (g k : Nat) (z0 z1 z2 z3 z4 z5 y0 y1 y2 y3 y4 y5 : Value) : World :=
  (putW w' g (.int .u8 k) (.int .u64 0) (.int .u64 0) (.int .u64 0) (.int .u64 0) (.slice (some ⟨w'.heap.size, 0, none⟩) 2 2)).alloc (.cells #[z0, z1, z2, z3, z4, z5, y0, y1, y2, y3, y4, y5] 27)
theorem chain_step {n0 g k : Nat} {w wr w' : World} {z0 z1 z2 z3 z4 z5 y0 y1 y2 y3 y4 y5 : Value} {r t : Rx} (hk : k < 256) (hn0 : n0 + 1 ≤ g)
    (hG : wr.heap[g]? = some (.cells #[y0, y1, y2, y3, y4, y5] 27)) (hN : wr.heap[n0]? = some nilBlk) (hv : ReAt (Own n0 g) wr (.agg #[y0, y1, y2, y3, y4, y5]) t)
    (hv2 : ReAt (New wr.heap.size) w' (.agg #[z0, z1, z2, z3, z4, z5]) r) (hb2 : Below wr.heap.size wr w') (hb : Below n0 w wr) :
    (chainW w' g k z0 z1 z2 z3 z4 z5 y0 y1 y2 y3 y4 y5).heap[g]? = some (.cells #[.int .u8 k, .int .u64 0, .int .u64 0, .int .u64 0, .int .u64 0, .slice (some ⟨w'.heap.size, 0, none⟩) 2 2] 27) ∧
    (chainW w' g k z0 z1 z2 z3 z4 z5 y0 y1 y2 y3 y4 y5).heap[n0]? = some nilBlk ∧
    ReAt (Own n0 g) (chainW w' g k z0 z1 z2 z3 z4 z5 y0 y1 y2 y3 y4 y5) (.agg #[.int .u8 k, .int .u64 0, .int .u64 0, .int .u64 0, .int .u64 0, .slice (some ⟨w'.heap.size, 0, none⟩) 2 2]) (.node k Ws.nil [r, t]) ∧
    Below n0 w (chainW w' g k z0 z1 z2 z3 z4 z5 y0 y1 y2 y3 y4 y5) := by
  have hg : g < wr.heap.size := (Array.getElem?_eq_some_iff.1 hG).1
  have hs := hb2.size
  have hG' : w'.heap[g]? = some (.cells #[y0, y1, y2, y3, y4, y5] 27) := (hb2.block g hg).trans hG
  have hsz := putW_size w' g (.int .u8 k) (.int .u64 0) (.int .u64 0) (.int .u64 0) (.int .u64 0) (.slice (some ⟨w'.heap.size, 0, none⟩) 2 2)
  have hold : ∀ b, b < w'.heap.size → b ≠ g → (chainW w' g k z0 z1 z2 z3 z4 z5 y0 y1 y2 y3 y4 y5).heap[b]? = w'.heap[b]? := fun b h1 h2 =>
    (Below.heap_alloc _ _ _ (by rw [hsz]; exact h1)).trans (putW_other _ _ _ _ _ _ _ _ h2)
  have hsize : w'.heap.size ≤ (chainW w' g k z0 z1 z2 z3 z4 z5 y0 y1 y2 y3 y4 y5).heap.size := by
    unfold chainW; rw [World.size_alloc, hsz]; omega
  refine ⟨(Below.heap_alloc _ _ _ (by rw [hsz]; omega)).trans (putR hG' _ _ _ _ _ _), (hold n0 (by omega) (by omega)).trans ((hb2.block n0 (by omega)).trans hN), ?_, ?_⟩
  · refine ⟨hk, Ws.nil_ok, _, _, rfl, Nat.le_refl _, by simp, row_two (blk_at _ _ hsz.symm) ?_ ?_ ?_⟩
    · unfold Own; omega
    · refine hv2.go ⟨hsize, fun b h1 h2 => ⟨?_, hold b h1 ?_⟩⟩
      · unfold New at h2; unfold Own; omega
      · unfold New at h2; omega
    · refine hv.go ⟨Nat.le_trans hs hsize, fun b h1 h2 => ⟨h2, ?_⟩⟩
      rw [hold b (by omega) h2.2, hb2.block b h1]
  · have h1 : Below n0 w w' := hb.trans (hb2.mono (by omega))
    exact (putB h1 (by omega : n0 ≤ g) _ _ _ _ _ _).alloc (by rw [hsz]; omega) _
set_option maxHeartbeats 4000000 in
theorem chain_any {ok : Nat → Prop} (k o : Nat) (l : List Rx) (al : Option Addr) (cap : Nat) (w : World) (hk : k < 256) (ho : o < 256) (hlen : l.length < 2199023255552) (h : RowAt ok w al l) :
    Calls Tryz.prog 81 #[.int .u8 k, .int .u8 o, .slice al l.length cap] w (NewPost (foldR k o l) w) := by
  have HR := Lib.hid h
  clear h
  by_cases hl : l = []
  · subst hl
    go_enter Tryz.func81, Tryz.ntmps81
    go_wp2
    exact ret_re (blk_new w _) Tryz.results81 rfl rfl ⟨_, rfl, bareAt _ _ o Ws.nil ho Ws.nil_ok, (Below.refl _ w).alloc (Nat.le_refl _) _⟩
  · have hpos : 0 < l.length := List.length_pos_iff.2 hl
    have e0 : ((l.length : Int) == 0) = false := by simp; omega
    obtain ⟨b, off, hab, hblt, hnode⟩ := HR.out.kid (i := l.length - 1) (by omega)
    subst hab
    have hb0 := (Below.refl _ w).alloc (Nat.le_refl _) nilBlk
    have hkid := NodeAt.below hb0 _ hblt hnode
    have hdrop : l.drop (l.length - 1) = [l[l.length - 1]'(by omega)] := by
      rw [List.drop_eq_getElem_cons (by omega), List.drop_of_length_le (by omega)]
    have HD := Lib.hid hdrop
    clear hdrop hl
    generalize l[l.length - 1]'(by omega) = kid at *
    obtain ⟨k', ⟨ta, tb, tc, td⟩, ks'⟩ := kid
    obtain ⟨al', cap', ⟨c0, c1, c2, c3, c4, c5⟩, hre⟩ := hkid.read
    simp only at c0 c1 c2 c3 c4 c5
    unfold nilBlk at c0 c1 c2 c3 c4 c5
    have HRE := Lib.hid hre
    clear hkid hnode hre
    have q1 : (l.length : Int) - 1 = ((l.length - 1 : Nat) : Int) := by omega
    have q2 : ((l.length - 1 : Nat) : Int) < (l.length : Int) := by omega
    go_enter Tryz.func81, Tryz.ntmps81
    go_wp2_with fail
    refine (cloneR _ _ _ HRE.out).mono ?_
    rintro e w1 ⟨v, rfl, hv, hb1⟩
    obtain ⟨x0, x1, x2, x3, x4, bl, n', cp, rfl⟩ := cells_re hv
    have hsz1 : w.heap.size + 1 ≤ w1.heap.size := by have := hb1.size; simpa using this
    have hbw : Below w.heap.size w w1 := hb0.trans (hb1.mono (by simp))
    have hnb : w1.heap[w.heap.size]? = some nilBlk := (hb1.block _ (by simp)).trans (blk_new w _)
    have HV := Lib.hid hv
    clear hv hb1 c0 c1 c2 c3 c4 c5 HRE hb0
    have HBW := Lib.hid hbw
    have HNB := Lib.hid hnb
    clear hbw hnb
    go_wp2
    go_loopw [9] (fun y wr => chainInv k o l w w1.heap.size y wr) (fun y _ => (intOf y + 1).toNat)
    case atStart =>
      refine ⟨l.length - 1, _, x0, x1, x2, x3, x4, bl, n', cp, by omega, ?_, rfl, blk_new w1 _, (Below.heap_alloc _ _ _ (by omega)).trans HNB.out, ?_, HBW.out.alloc (by omega) _⟩
      · first | rfl | (congr 1; omega)
      · rw [HD.out]
        refine HV.out.go ⟨by simp, fun b hb h => ⟨?_, Below.heap_alloc _ _ _ hb⟩⟩
        unfold New at h; unfold Own
        simp at h; omega
    case round =>
      obtain ⟨j, v, y0, y1, y2, y3, y4, yl, yn, yc, hj, rfl, rfl, hg, hn, hv, hb⟩ := hrel
      have HG := Lib.hid hg
      have HN := Lib.hid hn
      have HV' := Lib.hid hv
      clear hg hn hv HV HBW HNB HD
      have hgs := (Array.getElem?_eq_some_iff.1 HG.out).1
      by_cases hj0 : j = 0
      · subst hj0
        obtain ⟨d0, e1, e2, e3, e4, e5, f0, f1, f2, f3, f4, f5⟩ := cellsR HG.out
        obtain ⟨g0, g1, g2, g3, g4, g5, p0, p1, p2, p3, p4, p5⟩ := cellsR HN.out
        have hp := putR HN.out (.int .u8 y0) (.int .u64 y1) (.int .u64 y2) (.int .u64 y3) (.int .u64 y4) (.slice yl yn yc)
        have hbb := putB hb (Nat.le_refl w.heap.size) (.int .u8 y0) (.int .u64 y1) (.int .u64 y2) (.int .u64 y3) (.int .u64 y4) (.slice yl yn yc)
        have hre : ReAt (New w.heap.size) (putW wr w.heap.size (.int .u8 y0) (.int .u64 y1) (.int .u64 y2) (.int .u64 y3) (.int .u64 y4) (.slice yl yn yc)) (.agg #[.int .u8 y0, .int .u64 y1, .int .u64 y2, .int .u64 y3, .int .u64 y4, .slice yl yn yc]) (foldR k o l) := by
          have h := HV'.out
          rw [List.drop_zero] at h
          refine h.go ⟨by rw [putW_size]; exact Nat.le_refl _, fun b _ hb => ?_⟩
          unfold Own at hb
          exact ⟨by unfold New; omega, putW_other _ _ _ _ _ _ _ _ (by omega)⟩
        unfold putW at hp hbb hre
        have HP := Lib.hid hp
        have HBB := Lib.hid hbb
        have HRE := Lib.hid hre
        clear hp hbb hre
        go_wp2
        exact ret_re HP.out Tryz.results81 rfl rfl ⟨_, rfl, HRE.out, HBB.out⟩
      · have d1 : decide (0 ≤ (j : Int) - 1) = true := by simp; omega
        obtain ⟨b2, off2, hab2, hblt2, hnode2⟩ := HR.out.kid (i := j - 1) (by omega)
        simp at hab2
        obtain ⟨rfl, rfl⟩ := hab2
        have hkid2 := NodeAt.below hb _ hblt2 hnode2
        have hdrop : l.drop (j - 1) = l[j - 1]'(by omega) :: l.drop j := by
          rw [List.drop_eq_getElem_cons (by omega)]; congr 2; omega
        have hne : l.drop j ≠ [] := by simp; omega
        have hfo := foldR_cons k o (l[j - 1]'(by omega)) hne
        rw [← hdrop] at hfo
        have HFO := Lib.hid hfo
        clear hdrop hne hfo hnode2
        generalize l[j - 1]'(by omega) = kid2 at *
        obtain ⟨k2, ⟨sa, sb, sc, sd⟩, ks2⟩ := kid2
        obtain ⟨al2, cap2, ⟨c0, c1, c2, c3, c4, c5⟩, hre⟩ := hkid2.read
        simp only at c0 c1 c2 c3 c4 c5
        have HRE := Lib.hid hre
        clear hkid2 hre
        have r1 : (j : Int) - 1 = ((j - 1 : Nat) : Int) := by omega
        have r2 : ((j - 1 : Nat) : Int) < (l.length : Int) := by omega
        obtain ⟨d0, e1, e2, e3, e4, e5, f0, f1, f2, f3, f4, f5⟩ := cellsR HG.out
        go_wp2_with fail
        have KC := Lib.hid fun W (h : Below wr.heap.size wr W) => cloneR (.node k2 ⟨sa, sb, sc, sd⟩ ks2) _ W (HRE.out.below h)
        go_region_with (go_at_call 88; refine (KC.out _ (Below.refl _ _).drew).mono ?_; (rintro e w' ⟨v2, rfl, hv2, hb2⟩); obtain ⟨z0, z1, z2, z3, z4, zl, zn, zc, rfl⟩ := cells_re hv2; obtain ⟨d0', e1', e2', e3', e4', e5', f0', f1', f2', f3', f4', f5'⟩ := cellsR ((hb2.block _ hgs).trans HG.out); have hgs' : w1.heap.size < w'.heap.size := Nat.lt_of_lt_of_le hgs hb2.size)
        all_goals
          obtain ⟨s1, s2, s3, s4⟩ := chain_step (k := k) hk hsz1 HG.out HN.out HV'.out hv2 ((Below.refl _ wr).drew.trans hb2) hb
          have HS1 := Lib.hid s1
          have HS2 := Lib.hid s2
          have HS3 := Lib.hid s3
          have HS4 := Lib.hid s4
          unfold chainW putW at HS1 HS2 HS3 HS4
          clear s1 s2 s3 s4
          go_wp2
          refine ⟨⟨j - 1, _, k, 0, 0, 0, 0, _, 2, 2, by omega, ?_, rfl, HS1.out, HS2.out, ?_, HS4.out⟩, ?_⟩
          · first | rfl | (congr 1; omega)
          · rw [HFO.out]; exact HS3.out
          · simp [intOf]; omega
theorem pass_re {w w1 : World} {r : Rx} {x0 x1 x2 x3 x4 x5 : Value} (hv : ReAt (New (w.alloc nilBlk).heap.size) w1 (.agg #[x0, x1, x2, x3, x4, x5]) r) (hb1 : Below (w.alloc nilBlk).heap.size (w.alloc nilBlk) w1) :
    w1.heap[w.heap.size]? = some nilBlk ∧ (putW w1 w.heap.size x0 x1 x2 x3 x4 x5).heap[w.heap.size]? = some (.cells #[x0, x1, x2, x3, x4, x5] 27) ∧
    ReAt (New w.heap.size) (putW w1 w.heap.size x0 x1 x2 x3 x4 x5) (.agg #[x0, x1, x2, x3, x4, x5]) r ∧ Below w.heap.size w (putW w1 w.heap.size x0 x1 x2 x3 x4 x5) := by
  have hn : w1.heap[w.heap.size]? = some nilBlk := (hb1.block _ (by simp)).trans (blk_new w _)
  refine ⟨hn, putR hn _ _ _ _ _ _, ?_, putB (((Below.refl _ w).alloc (Nat.le_refl _) _).trans (hb1.mono (by simp))) (Nat.le_refl _) _ _ _ _ _ _⟩
  refine hv.go ⟨by rw [putW_size]; exact Nat.le_refl _, fun b _ h => ?_⟩
  unfold New at h
  simp at h
  exact ⟨by unfold New; omega, putW_other _ _ _ _ _ _ _ _ (by omega)⟩
theorem then_any {ok : Nat → Prop} (l : List Rx) (al : Option Addr) (cap : Nat) (w : World) (hlen : l.length < 2199023255552) (h : RowAt ok w al l) :
    Calls Tryz.prog 63 #[.slice al l.length cap] w (NewPost (foldR 4 2 l) w) := by
  have K := Lib.hid (chain_any 4 2 l al cap (w.alloc nilBlk) (by decide) (by decide) hlen (h.below ((Below.refl _ w).alloc (Nat.le_refl _) _)))
  generalize foldR 4 2 l = r at *
  go_enter Tryz.func63, Tryz.ntmps63
  go_wp2_with fail
  refine K.out.mono ?_
  rintro e w1 ⟨v, rfl, hv, hb1⟩
  obtain ⟨x0, x1, x2, x3, x4, bl, n', cp, rfl⟩ := cells_re hv
  obtain ⟨hn, h1, h2, h3⟩ := pass_re hv hb1
  obtain ⟨g0, g1, g2, g3, g4, g5, p0, p1, p2, p3, p4, p5⟩ := cellsR hn
  unfold putW at h1 h2 h3
  have H1 := Lib.hid h1
  have H2 := Lib.hid h2
  have H3 := Lib.hid h3
  clear hv hb1 hn h1 h2 h3
  go_wp2
  exact ret_re H1.out Tryz.results63 rfl rfl ⟨_, rfl, H2.out, H3.out⟩
theorem or_any {ok : Nat → Prop} (l : List Rx) (al : Option Addr) (cap : Nat) (w : World) (hlen : l.length < 2199023255552) (h : RowAt ok w al l) :
    Calls Tryz.prog 62 #[.slice al l.length cap] w (NewPost (foldR 5 1 l) w) := by
  have K := Lib.hid (chain_any 5 1 l al cap (w.alloc nilBlk) (by decide) (by decide) hlen (h.below ((Below.refl _ w).alloc (Nat.le_refl _) _)))
  generalize foldR 5 1 l = r at *
  go_enter Tryz.func62, Tryz.ntmps62
  go_wp2_with fail
  refine K.out.mono ?_
  rintro e w1 ⟨v, rfl, hv, hb1⟩
  obtain ⟨x0, x1, x2, x3, x4, bl, n', cp, rfl⟩ := cells_re hv
  obtain ⟨hn, h1, h2, h3⟩ := pass_re hv hb1
  obtain ⟨g0, g1, g2, g3, g4, g5, p0, p1, p2, p3, p4, p5⟩ := cellsR hn
  unfold putW at h1 h2 h3
  have H1 := Lib.hid h1
  have H2 := Lib.hid h2
  have H3 := Lib.hid h3
  clear hv hb1 hn h1 h2 h3
  go_wp2
  exact ret_re H1.out Tryz.results62 rfl rfl ⟨_, rfl, H2.out, H3.out⟩
end Go.Proofs.YtiegejbbjlhpdaaGreatDoor
/- Lemmas of mine. -/
namespace Go.Proofs.YtiegejbbjlhpdaaGreatDoor
def Ex.isEmp : Ex → Bool
  | .empty => true
  | _ => false
def Ex.isEps : Ex → Bool
  | .eps => true
  | _ => false
def Ex.isCls : Ex → Bool
  | .cls _ => true
  | _ => false
theorem isEmp_iff {e : Ex} : e.isEmp = true ↔ e = .empty := by cases e <;> simp [Ex.isEmp]
theorem isEps_iff {e : Ex} : e.isEps = true ↔ e = .eps := by cases e <;> simp [Ex.isEps]
def foldA : List Ex → Ex
  | [] => .empty
  | [r] => r
  | r :: r' :: rs => .alt r (foldA (r' :: rs))
theorem foldA_rx : ∀ l : List Ex, (foldA l).rx = foldR 5 1 (l.map Ex.rx)
  | [] => rfl
  | [_] => rfl
  | r :: r' :: rs => by
    have ih := foldA_rx (r' :: rs)
    simp only [foldA, Ex.rx, List.map_cons, foldR] at ih ⊢
    rw [ih]
def insE (r : Ex) : List Ex → List Ex
  | [] => [r]
  | o :: l => if ordR r.rx o.rx < 0 then r :: o :: l else o :: insE r l
theorem insE_map (r : Ex) : ∀ l : List Ex, (insE r l).map Ex.rx = insR r.rx (l.map Ex.rx)
  | [] => rfl
  | o :: l => by
    simp only [insE, List.map_cons, insR]
    split
    · rfl
    · simp only [List.map_cons, insE_map r l]
def sortE (l : List Ex) : List Ex := l.foldl (fun m r => insE r m) []
theorem foldIns_map : ∀ (l m : List Ex), (l.foldl (fun m r => insE r m) m).map Ex.rx = (l.map Ex.rx).foldl (fun m r => insR r m) (m.map Ex.rx)
  | [], _ => rfl
  | r :: l, m => by
    simp only [List.foldl_cons, List.map_cons]
    rw [foldIns_map l (insE r m), insE_map]
theorem sortE_map (l : List Ex) : (sortE l).map Ex.rx = sortR (l.map Ex.rx) := foldIns_map l []
def onceFromE : List Ex → List Ex → List Ex
  | out, [] => out
  | out, r :: l => if (out.map Ex.rx).any (fun o => sameR o r.rx) = true then onceFromE out l else onceFromE (out ++ [r]) l
theorem onceFromE_map : ∀ (l out : List Ex), (onceFromE out l).map Ex.rx = onceFrom (out.map Ex.rx) (l.map Ex.rx)
  | [], _ => rfl
  | r :: l, out => by
    simp only [onceFromE, List.map_cons, onceFrom]
    split
    · exact onceFromE_map l out
    · rw [onceFromE_map l (out ++ [r])]; simp
def canE (l : List Ex) : List Ex := onceFromE [] (sortE l)
theorem canE_map (l : List Ex) : (canE l).map Ex.rx = onceR (sortR (l.map Ex.rx)) := by
  unfold canE onceR
  rw [onceFromE_map, sortE_map]
  rfl
theorem mem_rx {x : Ex} {l : List Ex} : x.rx ∈ l.map Ex.rx ↔ x ∈ l := by
  constructor
  · intro h
    obtain ⟨y, hy, e⟩ := List.mem_map.1 h
    rw [← Ex.rx_inj _ _ e]
    exact hy
  · exact fun h => List.mem_map.2 ⟨x, h, rfl⟩
theorem canE_mem (l : List Ex) (x : Ex) : x ∈ canE l ↔ x ∈ l := by
  rw [← mem_rx, canE_map, onceR_mem, (sortR_perm _).mem_iff, mem_rx]
theorem nodup_rx {l : List Ex} (h : (l.map Ex.rx).Nodup) : l.Nodup := by
  unfold List.Nodup at *
  rw [List.pairwise_map] at h
  exact h.imp fun h e => h (by rw [e])
theorem canE_nodup (l : List Ex) : (canE l).Nodup := nodup_rx (by rw [canE_map]; exact onceR_nodup _)
theorem canE_order (l : List Ex) : InOrder ((canE l).map Ex.rx) := by rw [canE_map]; exact onceR_order (sortR_order _)
theorem map_rx_inj : ∀ {l m : List Ex}, l.map Ex.rx = m.map Ex.rx → l = m
  | [], [], _ => rfl
  | [], _ :: _, h => by simp at h
  | _ :: _, [], h => by simp at h
  | a :: l, b :: m, h => by
    simp only [List.map_cons, List.cons.injEq] at h
    rw [Ex.rx_inj _ _ h.1, map_rx_inj h.2]
theorem canE_eq {l m : List Ex} (h1 : InOrder (l.map Ex.rx)) (h2 : l.Nodup) (h3 : ∀ x, x ∈ m ↔ x ∈ l) : canE m = l := by
  apply map_rx_inj
  refine inOrder_unique ?_ (canE_order m) h1
  refine List.Perm.map _ ?_
  rw [List.perm_ext_iff_of_nodup (canE_nodup m) h2]
  intro x
  rw [canE_mem, h3]
def flatE : Ex → List Ex
  | .empty => []
  | .alt a b => flatE a ++ flatE b
  | .eps => [.eps]
  | .cls s => [.cls s]
  | .seq a b => [.seq a b]
  | .star a => [.star a]
def clsS : Ex → Option Ws
  | .cls s => some s
  | _ => none
def setE (l : List Ex) : Ws := (l.filterMap clsS).foldl Ws.join Ws.nil
def restE (l : List Ex) : List Ex := l.filter fun x => !x.isCls
def gathE (l : List Ex) : List Ex := if setE l = Ws.nil then restE l else restE l ++ [.cls (setE l)]
def altE (l : List Ex) : Ex := foldA (canE (gathE (l.flatMap flatE)))
def mkS (a b : Ex) : Ex := if b.isEmp = true then .empty else if b.isEps = true then a else .seq a b
def seqE : Ex → Ex → Ex
  | .empty, _ => .empty
  | .eps, b => b
  | .cls s, b => mkS (.cls s) b
  | .alt x y, b => mkS (.alt x y) b
  | .star x, b => mkS (.star x) b
  | .seq c d, b => if b.isEmp = true then .empty else if b.isEps = true then .seq c d else seqE c (seqE d b)
def starE : Ex → Ex
  | .empty => .eps
  | .eps => .eps
  | .star a => .star a
  | .cls s => .star (.cls s)
  | .seq a b => .star (.seq a b)
  | .alt a b => .star (.alt a b)
def nfE : Ex → Ex
  | .empty => .empty
  | .eps => .eps
  | .cls s => .cls s
  | .seq a b => seqE (nfE a) (nfE b)
  | .alt a b => altE [nfE a, nfE b]
  | .star a => starE (nfE a)
end Go.Proofs.YtiegejbbjlhpdaaGreatDoor
/- Lemmas of mine. -/
namespace Go.Proofs.YtiegejbbjlhpdaaGreatDoor
def Item (x : Ex) : Prop := x.isEmp = false ∧ x.isAlt = false
def AltOk (l : List Ex) : Prop := (∀ x ∈ l, Item x) ∧ InOrder (l.map Ex.rx) ∧ l.Nodup ∧ ∀ s t, .cls s ∈ l → .cls t ∈ l → s = t
inductive NF : Ex → Prop
  | empty : NF .empty
  | eps : NF .eps
  | cls (s : Ws) : NF (.cls s)
  | seq (a b : Ex) : NF a → NF b → a.isEmp = false → a.isEps = false → a.isSeq = false → b.isEmp = false → b.isEps = false → NF (.seq a b)
  | star (a : Ex) : NF a → a.isEmp = false → a.isEps = false → a.isStar = false → NF (.star a)
  | alts (x y : Ex) (l : List Ex) : (∀ z ∈ x :: y :: l, NF z) → AltOk (x :: y :: l) → NF (foldA (x :: y :: l))
theorem flat_item {x : Ex} (h : Item x) : flatE x = [x] := by
  cases x <;> simp_all [Item, Ex.isEmp, Ex.isAlt, flatE]
theorem flat_fold : ∀ (l : List Ex), (∀ x ∈ l, Item x) → flatE (foldA l) = l
  | [], _ => rfl
  | [x], h => flat_item (h x (by simp))
  | x :: y :: l, h => by
    show flatE x ++ flatE (foldA (y :: l)) = _
    rw [flat_item (h x (by simp)), flat_fold (y :: l) (fun z hz => h z (List.mem_cons_of_mem _ hz))]
    rfl
theorem fold_nf : ∀ (l : List Ex), (∀ z ∈ l, NF z) → AltOk l → NF (foldA l)
  | [], _, _ => .empty
  | [x], h, _ => h x (by simp)
  | x :: y :: l, h, ho => .alts x y l h ho
theorem altOk_one {x : Ex} (h : Item x) : AltOk [x] := by
  refine ⟨fun z hz => by simp at hz; subst hz; exact h, by simp [InOrder], by simp, fun s t hs ht => ?_⟩
  simp at hs ht
  rw [← hs] at ht
  injection ht with ht
  exact ht.symm
theorem NF.row {x : Ex} (h : NF x) : (∀ z ∈ flatE x, NF z) ∧ AltOk (flatE x) ∧ foldA (flatE x) = x := by
  cases h with
  | empty => exact ⟨fun z hz => by simp [flatE] at hz, ⟨fun z hz => by simp [flatE] at hz, by simp [InOrder, flatE], by simp [flatE], fun s t hs => by simp [flatE] at hs⟩, rfl⟩
  | eps => exact ⟨fun z hz => by simp [flatE] at hz; subst hz; exact .eps, altOk_one ⟨rfl, rfl⟩, rfl⟩
  | cls s => exact ⟨fun z hz => by simp [flatE] at hz; subst hz; exact .cls s, altOk_one ⟨rfl, rfl⟩, rfl⟩
  | seq a b h1 h2 h3 h4 h5 h6 h7 => exact ⟨fun z hz => by simp [flatE] at hz; subst hz; exact .seq a b h1 h2 h3 h4 h5 h6 h7, altOk_one ⟨rfl, rfl⟩, rfl⟩
  | star a h1 h2 h3 h4 => exact ⟨fun z hz => by simp [flatE] at hz; subst hz; exact .star a h1 h2 h3 h4, altOk_one ⟨rfl, rfl⟩, rfl⟩
  | alts x y l h1 h2 =>
    rw [flat_fold _ h2.1]
    exact ⟨h1, h2, rfl⟩
theorem mem_rest {l : List Ex} {x : Ex} : x ∈ restE l ↔ x ∈ l ∧ x.isCls = false := by simp [restE]
theorem cls_mem {l : List Ex} {s : Ws} : s ∈ l.filterMap clsS ↔ .cls s ∈ l := by
  rw [List.mem_filterMap]
  constructor
  · rintro ⟨x, hx, e⟩
    cases x <;> simp [clsS] at e
    subst e
    exact hx
  · exact fun h => ⟨_, h, rfl⟩
theorem foldJ_ok : ∀ (l : List Ws) (z : Ws), z.Ok → (∀ s ∈ l, s.Ok) → (l.foldl Ws.join z).Ok
  | [], z, hz, _ => hz
  | s :: l, z, hz, h => foldJ_ok l _ (Ws.join_ok hz (h s (by simp))) (fun t ht => h t (List.mem_cons_of_mem _ ht))
theorem foldJ_has : ∀ (l : List Ws) (z : Ws) (n : Nat), (l.foldl Ws.join z).has n = (z.has n || l.any fun s => s.has n)
  | [], z, n => by simp
  | s :: l, z, n => by
    simp only [List.foldl_cons, List.any_cons]
    rw [foldJ_has l, Ws.has_join, Bool.or_assoc]
theorem setE_one {l : List Ex} {s : Ws} (hs : s.Ok) (h1 : .cls s ∈ l) (h2 : ∀ t, .cls t ∈ l → t = s) : setE l = s := by
  unfold setE
  have hok : ∀ t ∈ l.filterMap clsS, t.Ok := fun t ht => by rw [h2 t (cls_mem.1 ht)]; exact hs
  refine Ws.has_ext (foldJ_ok _ _ Ws.nil_ok hok) hs fun n _ => ?_
  rw [foldJ_has, Ws.has_nil, Bool.false_or]
  cases hh : s.has n with
  | true => exact List.any_eq_true.2 ⟨s, cls_mem.2 h1, hh⟩
  | false =>
    rw [List.any_eq_false]
    intro t ht
    rw [h2 t (cls_mem.1 ht), hh]
    simp
theorem setE_none {l : List Ex} (h : ∀ t, .cls t ∉ l) : setE l = Ws.nil := by
  unfold setE
  have : l.filterMap clsS = [] := by
    rw [List.eq_nil_iff_forall_not_mem]
    exact fun t ht => h t (cls_mem.1 ht)
  rw [this]
  rfl
def Ex.Wfs (l : List Ex) : Prop := ∀ x ∈ l, x.Wf
theorem gath_ok {l : List Ex} (h : ∀ x ∈ l, Item x) : AltOk (canE (gathE l)) := by
  have hm : ∀ x, x ∈ gathE l → (x ∈ l ∧ x.isCls = false) ∨ x = .cls (setE l) := by
    intro x hx
    unfold gathE at hx
    split at hx
    · exact .inl (mem_rest.1 hx)
    · rcases List.mem_append.1 hx with hx | hx
      · exact .inl (mem_rest.1 hx)
      · simp at hx; exact .inr hx
  refine ⟨fun x hx => ?_, canE_order _, canE_nodup _, fun s t hs ht => ?_⟩
  · rcases hm x ((canE_mem _ _).1 hx) with hx | rfl
    · exact h x hx.1
    · exact ⟨rfl, rfl⟩
  · rcases hm _ ((canE_mem _ _).1 hs) with hs | hs
    · simp [Ex.isCls] at hs
    · rcases hm _ ((canE_mem _ _).1 ht) with ht | ht
      · simp [Ex.isCls] at ht
      · injection hs with hs
        injection ht with ht
        rw [hs, ht]
theorem gath_nf {l : List Ex} (h : ∀ x ∈ l, NF x) : ∀ x ∈ canE (gathE l), NF x := by
  intro x hx
  have hx := (canE_mem _ _).1 hx
  unfold gathE at hx
  split at hx
  · exact h x (mem_rest.1 hx).1
  · rcases List.mem_append.1 hx with hx | hx
    · exact h x (mem_rest.1 hx).1
    · simp at hx; subst hx; exact .cls _
theorem alt_nf {l : List Ex} (h : ∀ x ∈ l, NF x) : NF (altE l) := by
  have h1 : ∀ x ∈ l.flatMap flatE, Item x ∧ NF x := by
    intro x hx
    obtain ⟨y, hy, hx⟩ := List.mem_flatMap.1 hx
    have hr := (h y hy).row
    exact ⟨hr.2.1.1 x hx, hr.1 x hx⟩
  exact fold_nf _ (gath_nf fun x hx => (h1 x hx).2) (gath_ok fun x hx => (h1 x hx).1)
theorem mkS_nf {a b : Ex} (ha : NF a) (hb : NF b) (h1 : a.isEmp = false) (h2 : a.isEps = false) (h3 : a.isSeq = false) : NF (mkS a b) := by
  unfold mkS
  split
  · exact .empty
  · split
    · exact ha
    · rename_i h4 h5
      exact .seq a b ha hb h1 h2 h3 (by simpa using h4) (by simpa using h5)
theorem mkS_seq {a b : Ex} (h1 : b.isEmp = false) (h2 : b.isEps = false) : mkS a b = .seq a b := by
  unfold mkS
  rw [h1, h2]
  rfl
theorem seqE_plain {a b : Ex} (h1 : a.isEmp = false) (h2 : a.isEps = false) (h3 : a.isSeq = false) (h4 : b.isEmp = false) (h5 : b.isEps = false) : seqE a b = .seq a b := by
  cases a <;> simp_all [Ex.isEmp, Ex.isEps, Ex.isSeq, seqE, mkS]
theorem seqE_some : ∀ {a b : Ex}, NF a → a.isEmp = false → a.isEps = false → b.isEmp = false → b.isEps = false → (seqE a b).isEmp = false ∧ (seqE a b).isEps = false := by
  intro a b ha h1 h2 h4 h5
  cases ha with
  | empty => simp [Ex.isEmp] at h1
  | eps => simp [Ex.isEps] at h2
  | cls s => rw [seqE_plain rfl rfl rfl h4 h5]; exact ⟨rfl, rfl⟩
  | star a _ _ _ _ => rw [seqE_plain rfl rfl rfl h4 h5]; exact ⟨rfl, rfl⟩
  | alts x y l _ _ => rw [seqE_plain rfl rfl rfl h4 h5]; exact ⟨rfl, rfl⟩
  | seq c d hc hd c1 c2 c3 d1 d2 =>
    have ih := seqE_some (b := b) hd d1 d2 h4 h5
    have e : seqE (.seq c d) b = seqE c (seqE d b) := by simp only [seqE, h4, h5]; rfl
    rw [e, seqE_plain c1 c2 c3 ih.1 ih.2]
    exact ⟨rfl, rfl⟩
theorem seq_nf : ∀ {a b : Ex}, NF a → NF b → NF (seqE a b) := by
  intro a b ha hb
  cases ha with
  | empty => exact .empty
  | eps => exact hb
  | cls s => exact mkS_nf (.cls s) hb rfl rfl rfl
  | star a h1 h2 h3 h4 => exact mkS_nf (.star a h1 h2 h3 h4) hb rfl rfl rfl
  | alts x y l h1 h2 => exact mkS_nf (.alts x y l h1 h2) hb rfl rfl rfl
  | seq c d hc hd c1 c2 c3 d1 d2 =>
    cases h4 : b.isEmp with
    | true =>
      have e : seqE (.seq c d) b = .empty := by simp only [seqE, h4]; rfl
      rw [e]; exact .empty
    | false =>
      cases h5 : b.isEps with
      | true =>
        have e : seqE (.seq c d) b = .seq c d := by simp only [seqE, h4, h5]; rfl
        rw [e]; exact .seq c d hc hd c1 c2 c3 d1 d2
      | false =>
        have e : seqE (.seq c d) b = seqE c (seqE d b) := by simp only [seqE, h4, h5]; rfl
        have h6 := seqE_some (b := b) hd d1 d2 h4 h5
        rw [e, seqE_plain c1 c2 c3 h6.1 h6.2]
        exact .seq c _ hc (seq_nf hd hb) c1 c2 c3 h6.1 h6.2
theorem star_nf {a : Ex} (h : NF a) : NF (starE a) := by
  cases h with
  | empty => exact .eps
  | eps => exact .eps
  | cls s => exact .star _ (.cls s) rfl rfl rfl
  | star a h1 h2 h3 h4 => exact .star a h1 h2 h3 h4
  | seq a b h1 h2 h3 h4 h5 h6 h7 => exact .star _ (.seq a b h1 h2 h3 h4 h5 h6 h7) rfl rfl rfl
  | alts x y l h1 h2 => exact .star _ (.alts x y l h1 h2) rfl rfl rfl
theorem nf_nf : ∀ e : Ex, NF (nfE e)
  | .empty => .empty
  | .eps => .eps
  | .cls s => .cls s
  | .seq a b => seq_nf (nf_nf a) (nf_nf b)
  | .alt a b => alt_nf fun x hx => by
    simp at hx
    rcases hx with rfl | rfl
    · exact nf_nf a
    · exact nf_nf b
  | .star a => star_nf (nf_nf a)
theorem fold_wf : ∀ (l : List Ex), Ex.Wfs l ↔ (foldA l).Wf
  | [] => by simp [Ex.Wfs, foldA, Ex.Wf]
  | [x] => by simp [Ex.Wfs, foldA]
  | x :: y :: l => by
    have ih := fold_wf (y :: l)
    show _ ↔ x.Wf ∧ (foldA (y :: l)).Wf
    rw [← ih]
    simp [Ex.Wfs]
end Go.Proofs.YtiegejbbjlhpdaaGreatDoor
/- Lemmas of mine. -/
namespace Go.Proofs.YtiegejbbjlhpdaaGreatDoor
theorem flat_wf : ∀ (e : Ex), e.Wf → Ex.Wfs (flatE e)
  | .empty, _ => fun x hx => by simp [flatE] at hx
  | .eps, h => fun x hx => by simp [flatE] at hx; subst hx; exact h
  | .cls s, h => fun x hx => by simp [flatE] at hx; subst hx; exact h
  | .seq a b, h => fun x hx => by simp [flatE] at hx; subst hx; exact h
  | .star a, h => fun x hx => by simp [flatE] at hx; subst hx; exact h
  | .alt a b, h => fun x hx => by
    rcases List.mem_append.1 (show x ∈ flatE a ++ flatE b from hx) with hx | hx
    · exact flat_wf a h.1 x hx
    · exact flat_wf b h.2 x hx
theorem flats_wf {l : List Ex} (h : Ex.Wfs l) : Ex.Wfs (l.flatMap flatE) := fun x hx => by
  obtain ⟨y, hy, hx⟩ := List.mem_flatMap.1 hx
  exact flat_wf y (h y hy) x hx
theorem setE_ok {l : List Ex} (h : Ex.Wfs l) : (setE l).Ok := foldJ_ok _ _ Ws.nil_ok fun _ hs => (h _ (cls_mem.1 hs)).1
theorem gath_wf {l : List Ex} (h : Ex.Wfs l) : Ex.Wfs (gathE l) := by
  intro x hx
  unfold gathE at hx
  split at hx
  · exact h x (mem_rest.1 hx).1
  · rename_i hs
    rcases List.mem_append.1 hx with hx | hx
    · exact h x (mem_rest.1 hx).1
    · simp at hx; subst hx; exact ⟨setE_ok h, hs⟩
theorem altE_wf {l : List Ex} (h : Ex.Wfs l) : (altE l).Wf := (fold_wf _).1 fun x hx => gath_wf (flats_wf h) x ((canE_mem _ _).1 hx)
theorem mkS_wf {a b : Ex} (ha : a.Wf) (hb : b.Wf) : (mkS a b).Wf := by
  unfold mkS
  split
  · trivial
  · split
    · exact ha
    · exact ⟨ha, hb⟩
theorem seqE_wf : ∀ (a b : Ex), a.Wf → b.Wf → (seqE a b).Wf
  | .empty, _, _, _ => trivial
  | .eps, _, _, hb => hb
  | .cls s, b, ha, hb => mkS_wf (a := .cls s) ha hb
  | .alt x y, b, ha, hb => mkS_wf (a := .alt x y) ha hb
  | .star x, b, ha, hb => mkS_wf (a := .star x) ha hb
  | .seq c d, b, ha, hb => by
    simp only [seqE]
    split
    · trivial
    · split
      · exact ha
      · exact seqE_wf c _ ha.1 (seqE_wf d b ha.2 hb)
theorem starE_wf {a : Ex} (h : a.Wf) : (starE a).Wf := by cases a <;> exact h
theorem nf_wf : ∀ (e : Ex), e.Wf → (nfE e).Wf
  | .empty, _ => trivial
  | .eps, _ => trivial
  | .cls _, h => h
  | .seq a b, h => seqE_wf _ _ (nf_wf a h.1) (nf_wf b h.2)
  | .alt a b, h => altE_wf fun x hx => by
    simp at hx
    rcases hx with rfl | rfl
    · exact nf_wf a h.1
    · exact nf_wf b h.2
  | .star a, h => starE_wf (nf_wf a h)
def wt (l : List Ex) : Nat := (l.map fun x => x.size + 1).sum
theorem wt_cons (x : Ex) (l : List Ex) : wt (x :: l) = x.size + 1 + wt l := by simp [wt]
theorem wt_append (l m : List Ex) : wt (l ++ m) = wt l + wt m := by simp [wt]
theorem Ex.one_le (e : Ex) : 1 ≤ e.size := by cases e <;> simp only [Ex.size] <;> omega
theorem wt_flat : ∀ e : Ex, wt (flatE e) ≤ e.size + 1
  | .empty => by simp [flatE, wt]
  | .eps => by simp [flatE, wt, Ex.size]
  | .cls _ => by simp [flatE, wt, Ex.size]
  | .seq a b => by simp [flatE, wt, Ex.size]
  | .star a => by simp [flatE, wt, Ex.size]
  | .alt a b => by
    have h1 := wt_flat a
    have h2 := wt_flat b
    simp only [flatE, wt_append, Ex.size]
    omega
theorem wt_rest (l : List Ex) : wt (restE l) + 2 * (l.filterMap clsS).length = wt l := by
  induction l with
  | nil => rfl
  | cons x l ih =>
    cases x <;> simp [restE, Ex.isCls, clsS, List.filterMap_cons, wt_cons, Ex.size] at ih ⊢ <;> omega
theorem wt_gath (l : List Ex) : wt (gathE l) ≤ wt l := by
  have h := wt_rest l
  unfold gathE
  split
  · omega
  · rename_i hs
    have hne : l.filterMap clsS ≠ [] := by
      intro e
      apply hs
      unfold setE
      rw [e]
      rfl
    have hlen : 1 ≤ (l.filterMap clsS).length := List.length_pos_iff.2 hne
    rw [wt_append]
    simp [wt, Ex.size] at h ⊢
    omega
theorem wt_sub : ∀ {l m : List Ex}, l.Nodup → (∀ x ∈ l, x ∈ m) → wt l ≤ wt m
  | [], _, _, _ => by simp [wt]
  | x :: l, m, hn, hs => by
    obtain ⟨m1, m2, rfl⟩ := List.append_of_mem (hs x (by simp))
    have hn' := List.nodup_cons.1 hn
    have h1 := wt_sub (l := l) (m := m1 ++ m2) hn'.2 fun y hy => by
      have h2 := hs y (List.mem_cons_of_mem _ hy)
      rcases List.mem_append.1 h2 with h2 | h2
      · exact List.mem_append.2 (.inl h2)
      · rcases List.mem_cons.1 h2 with h2 | h2
        · subst h2; exact absurd hy hn'.1
        · exact List.mem_append.2 (.inr h2)
    simp only [wt_cons, wt_append] at h1 ⊢
    omega
theorem wt_can (l : List Ex) : wt (canE l) ≤ wt l := wt_sub (canE_nodup l) fun x hx => (canE_mem l x).1 hx
theorem fold_size : ∀ (l : List Ex), (foldA l).size + 1 ≤ max 2 (wt l)
  | [] => by simp [foldA, Ex.size, wt]
  | [x] => by simp [foldA, wt]; omega
  | x :: y :: l => by
    have ih := fold_size (y :: l)
    have h1 := y.one_le
    have h2 : wt (y :: l) ≥ 2 := by rw [wt_cons]; omega
    simp only [foldA, Ex.size]
    rw [wt_cons]
    omega
theorem altE_size (a b : Ex) : (altE [a, b]).size ≤ (Ex.alt a b).size := by
  have h1 := fold_size (canE (gathE ([a, b].flatMap flatE)))
  have h2 := wt_can (gathE ([a, b].flatMap flatE))
  have h3 := wt_gath ([a, b].flatMap flatE)
  have h4 : wt ([a, b].flatMap flatE) = wt (flatE a) + wt (flatE b) := by simp [wt_append]
  have h5 := wt_flat a
  have h6 := wt_flat b
  have h7 := a.one_le
  unfold altE
  simp only [Ex.size]
  omega
theorem mkS_size (a b : Ex) : (mkS a b).size ≤ 1 + a.size + b.size := by
  unfold mkS
  split
  · simp [Ex.size]; omega
  · split
    · omega
    · simp [Ex.size]
theorem seqE_size : ∀ (a b : Ex), (seqE a b).size ≤ 1 + a.size + b.size
  | .empty, b => by simp [seqE, Ex.size]; omega
  | .eps, b => by simp [seqE, Ex.size]
  | .cls s, b => mkS_size _ _
  | .alt x y, b => mkS_size _ _
  | .star x, b => mkS_size _ _
  | .seq c d, b => by
    have h1 := seqE_size c (seqE d b)
    have h2 := seqE_size d b
    simp only [seqE]
    split
    · simp [Ex.size]; omega
    · split
      · omega
      · simp only [Ex.size] at *; omega
theorem starE_size (a : Ex) : (starE a).size ≤ 1 + a.size := by cases a <;> simp [starE, Ex.size] <;> omega
theorem nf_size : ∀ e : Ex, (nfE e).size ≤ e.size
  | .empty => Nat.le_refl _
  | .eps => Nat.le_refl _
  | .cls _ => Nat.le_refl _
  | .seq a b => by
    have h1 := seqE_size (nfE a) (nfE b)
    have h2 := nf_size a
    have h3 := nf_size b
    simp only [nfE, Ex.size]
    omega
  | .alt a b => by
    have h1 := altE_size (nfE a) (nfE b)
    have h2 := nf_size a
    have h3 := nf_size b
    simp only [nfE, Ex.size] at *
    omega
  | .star a => by
    have h1 := starE_size (nfE a)
    have h2 := nf_size a
    simp only [nfE, Ex.size]
    omega
theorem setE_has (l : List Ex) (n : Nat) : (setE l).has n = l.any fun x => x.isCls && x.fst.has n := by
  unfold setE
  rw [foldJ_has, Ws.has_nil, Bool.false_or]
  induction l with
  | nil => rfl
  | cons x l ih =>
    rw [List.any_cons, ← ih]
    cases x with
    | cls s => rw [show (Ex.cls s :: l).filterMap clsS = s :: l.filterMap clsS from rfl, List.any_cons]; rfl
    | empty => rw [show (Ex.empty :: l).filterMap clsS = l.filterMap clsS from rfl]; simp [Ex.isCls]
    | eps => rw [show (Ex.eps :: l).filterMap clsS = l.filterMap clsS from rfl]; simp [Ex.isCls]
    | seq a b => rw [show (Ex.seq a b :: l).filterMap clsS = l.filterMap clsS from rfl]; simp [Ex.isCls]
    | alt a b => rw [show (Ex.alt a b :: l).filterMap clsS = l.filterMap clsS from rfl]; simp [Ex.isCls]
    | star a => rw [show (Ex.star a :: l).filterMap clsS = l.filterMap clsS from rfl]; simp [Ex.isCls]
theorem Ws.join_nil (s : Ws) : s.join Ws.nil = s := by
  obtain ⟨a, b, c, d⟩ := s
  simp [Ws.join, Ws.nil]
theorem Ws.join_assoc (s t u : Ws) : (s.join t).join u = s.join (t.join u) := by
  simp [Ws.join, Nat.or_assoc]
end Go.Proofs.YtiegejbbjlhpdaaGreatDoor
/- Lemmas of mine. -/
namespace Go.Proofs.YtiegejbbjlhpdaaGreatDoor
def partE (k : Nat) : Ex → List Ex
  | .empty => [.empty]
  | .eps => [.eps]
  | .cls s => [.cls s]
  | .seq a b => if k = 4 then partE k a ++ partE k b else [.seq a b]
  | .alt a b => if k = 5 then partE k a ++ partE k b else [.alt a b]
  | .star a => [.star a]
def partL (k : Nat) (l : List Ex) : List Ex := l.flatMap (partE k)
theorem part_mem_size (k : Nat) : ∀ (e x : Ex), x ∈ partE k e → x.size ≤ e.size
  | .empty, x, h => by simp [partE] at h; subst h; exact Nat.le_refl _
  | .eps, x, h => by simp [partE] at h; subst h; exact Nat.le_refl _
  | .cls s, x, h => by simp [partE] at h; subst h; exact Nat.le_refl _
  | .star a, x, h => by simp [partE] at h; subst h; exact Nat.le_refl _
  | .seq a b, x, h => by
    unfold partE at h
    split at h
    · rcases List.mem_append.1 h with h | h
      · have := part_mem_size k a x h; simp only [Ex.size]; omega
      · have := part_mem_size k b x h; simp only [Ex.size]; omega
    · simp at h; subst h; exact Nat.le_refl _
  | .alt a b, x, h => by
    unfold partE at h
    split at h
    · rcases List.mem_append.1 h with h | h
      · have := part_mem_size k a x h; simp only [Ex.size]; omega
      · have := part_mem_size k b x h; simp only [Ex.size]; omega
    · simp at h; subst h; exact Nat.le_refl _
theorem part_mem_wf (k : Nat) : ∀ (e x : Ex), e.Wf → x ∈ partE k e → x.Wf
  | .empty, x, hw, h => by simp [partE] at h; subst h; exact hw
  | .eps, x, hw, h => by simp [partE] at h; subst h; exact hw
  | .cls s, x, hw, h => by simp [partE] at h; subst h; exact hw
  | .star a, x, hw, h => by simp [partE] at h; subst h; exact hw
  | .seq a b, x, hw, h => by
    unfold partE at h
    split at h
    · rcases List.mem_append.1 h with h | h
      · exact part_mem_wf k a x hw.1 h
      · exact part_mem_wf k b x hw.2 h
    · simp at h; subst h; exact hw
  | .alt a b, x, hw, h => by
    unfold partE at h
    split at h
    · rcases List.mem_append.1 h with h | h
      · exact part_mem_wf k a x hw.1 h
      · exact part_mem_wf k b x hw.2 h
    · simp at h; subst h; exact hw
theorem part_len (k : Nat) : ∀ e : Ex, (partE k e).length ≤ e.size
  | .empty => by simp [partE, Ex.size]
  | .eps => by simp [partE, Ex.size]
  | .cls s => by simp [partE, Ex.size]
  | .star a => by simp [partE, Ex.size]
  | .seq a b => by
    have h1 := part_len k a
    have h2 := part_len k b
    unfold partE
    split
    · simp only [List.length_append, Ex.size]; omega
    · simp only [List.length_singleton, Ex.size]; omega
  | .alt a b => by
    have h1 := part_len k a
    have h2 := part_len k b
    unfold partE
    split
    · simp only [List.length_append, Ex.size]; omega
    · simp only [List.length_singleton, Ex.size]; omega
theorem partL_append (k : Nat) (l m : List Ex) : partL k (l ++ m) = partL k l ++ partL k m := by simp [partL]
def foldS : List Ex → Ex
  | [] => .eps
  | [r] => r
  | r :: r' :: rs => .seq r (foldS (r' :: rs))
theorem foldS_rx : ∀ l : List Ex, (foldS l).rx = foldR 4 2 (l.map Ex.rx)
  | [] => rfl
  | [_] => rfl
  | r :: r' :: rs => by
    have ih := foldS_rx (r' :: rs)
    simp only [foldS, Ex.rx, List.map_cons, foldR] at ih ⊢
    rw [ih]
def seqP (p : List Ex) : Ex := if p.any Ex.isEmp = true then .empty else foldS (p.filter fun x => !x.isEps)
def seqF (l : List Ex) : Ex := l.foldr seqE .eps
theorem seqE_mkS {x b : Ex} (h1 : x.isEmp = false) (h2 : x.isEps = false) (h3 : x.isSeq = false) : seqE x b = mkS x b := by
  cases x <;> simp_all [Ex.isEmp, Ex.isEps, Ex.isSeq, seqE]
theorem seqE_emp (a : Ex) : seqE a .empty = .empty := by cases a <;> rfl
theorem seqE_eps_nf {a : Ex} : seqE a .eps = a := by
  cases a <;> rfl
theorem seqP_foldr : ∀ (p : List Ex), (∀ x ∈ p, x.isSeq = false) → p.foldr seqE .eps = seqP p
  | [], _ => rfl
  | x :: p, h => by
    have ih := seqP_foldr p fun y hy => h y (List.mem_cons_of_mem _ hy)
    rw [List.foldr_cons, ih]
    unfold seqP
    cases h1 : x.isEmp with
    | true =>
      obtain rfl := isEmp_iff.1 h1
      rw [List.any_cons, h1]
      rfl
    | false =>
      rw [List.any_cons, h1, Bool.false_or]
      cases h2 : x.isEps with
      | true =>
        obtain rfl := isEps_iff.1 h2
        rw [List.filter_cons, h2]
        rfl
      | false =>
        rw [List.filter_cons, h2]
        simp only [Bool.not_false, if_true]
        rw [seqE_mkS h1 h2 (h x (by simp))]
        by_cases hq : p.any Ex.isEmp = true
        · rw [if_pos hq, if_pos hq]; rfl
        · rw [if_neg hq, if_neg hq]
          have hm : ∀ y ∈ p.filter fun x => !x.isEps, y.isEmp = false ∧ y.isEps = false := fun y hy => by
            obtain ⟨y1, y2⟩ := List.mem_filter.1 hy
            refine ⟨?_, by simpa using y2⟩
            cases hc : y.isEmp with
            | false => rfl
            | true => exact absurd (List.any_eq_true.2 ⟨y, y1, hc⟩) hq
          generalize (p.filter fun x => !x.isEps) = q at *
          match q, hm with
          | [], _ => rfl
          | [y], hm =>
            obtain ⟨a1, a2⟩ := hm y (by simp)
            show mkS x y = .seq x y
            exact mkS_seq a1 a2
          | y :: z :: q, hm => rfl
theorem part_foldr : ∀ (e b : Ex), NF e → seqE e b = (partE 4 e).foldr seqE b
  | .empty, b, _ => rfl
  | .eps, b, _ => rfl
  | .cls s, b, _ => rfl
  | .star a, b, _ => rfl
  | .alt x y, b, _ => rfl
  | .seq c d, b, h => by
    have hs : NF c ∧ NF d ∧ c.isEmp = false ∧ c.isEps = false ∧ c.isSeq = false ∧ d.isEmp = false ∧ d.isEps = false := by
      generalize hz : Ex.seq c d = z at h
      cases h with
      | seq a b h1 h2 h3 h4 h5 h6 h7 => injection hz with e1 e2; subst e1 e2; exact ⟨h1, h2, h3, h4, h5, h6, h7⟩
      | empty => cases hz
      | eps => cases hz
      | cls s => cases hz
      | star a h1 h2 h3 h4 => cases hz
      | alts x y l h1 h2 => cases hz
    obtain ⟨hc, hd, c1, c2, c3, d1, d2⟩ := hs
    have ic := part_foldr c
    have id' := part_foldr d b hd
    have e : partE 4 (.seq c d) = partE 4 c ++ partE 4 d := by simp [partE]
    rw [e, List.foldr_append, ← id', ← ic _ hc]
    simp only [seqE]
    split
    · rename_i hb
      rw [isEmp_iff.1 hb, seqE_emp, seqE_emp]
    · split
      · rename_i hb
        rw [isEps_iff.1 hb, seqE_eps_nf, seqE_plain c1 c2 c3 d1 d2]
      · rfl
theorem part_plain : ∀ (e : Ex), ∀ x ∈ partE 4 e, x.isSeq = false
  | .empty, x, h => by simp [partE] at h; subst h; rfl
  | .eps, x, h => by simp [partE] at h; subst h; rfl
  | .cls s, x, h => by simp [partE] at h; subst h; rfl
  | .star a, x, h => by simp [partE] at h; subst h; rfl
  | .alt a b, x, h => by simp [partE] at h; subst h; rfl
  | .seq a b, x, h => by
    have e : partE 4 (.seq a b) = partE 4 a ++ partE 4 b := by simp [partE]
    rw [e] at h
    rcases List.mem_append.1 h with h | h
    · exact part_plain a x h
    · exact part_plain b x h
theorem seqL_eq {l : List Ex} (h : ∀ x ∈ l, NF x) : seqP (partL 4 l) = seqF l := by
  rw [← seqP_foldr _ fun x hx => by
    obtain ⟨e, _, hx⟩ := List.mem_flatMap.1 hx
    exact part_plain e x hx]
  unfold seqF
  induction l with
  | nil => rfl
  | cons e l ih =>
    rw [List.foldr_cons, ← ih fun x hx => h x (List.mem_cons_of_mem _ hx), part_foldr e _ (h e (by simp))]
    simp only [partL, List.flatMap_cons, List.foldr_append]
theorem seqE_assoc : ∀ (x z y : Ex), NF x → seqE (seqE x z) y = seqE x (seqE z y)
  | .empty, _, _, _ => rfl
  | .eps, _, _, _ => rfl
  | .cls s, z, y, _ => plain (.cls s) z y rfl rfl rfl
  | .star a, z, y, _ => plain (.star a) z y rfl rfl rfl
  | .alt a b, z, y, _ => plain (.alt a b) z y rfl rfl rfl
  | .seq c d, z, y, h => by
    have hs : NF c ∧ NF d ∧ c.isEmp = false ∧ c.isEps = false ∧ c.isSeq = false ∧ d.isEmp = false ∧ d.isEps = false := by
      generalize hz : Ex.seq c d = q at h
      cases h with
      | seq a b h1 h2 h3 h4 h5 h6 h7 => injection hz with e1 e2; subst e1 e2; exact ⟨h1, h2, h3, h4, h5, h6, h7⟩
      | empty => cases hz
      | eps => cases hz
      | cls s => cases hz
      | star a h1 h2 h3 h4 => cases hz
      | alts x y l h1 h2 => cases hz
    obtain ⟨hc, hd, c1, c2, c3, d1, d2⟩ := hs
    have ic := fun z => seqE_assoc c z y hc
    have id' := seqE_assoc d z y hd
    cases z1 : z.isEmp with
    | true => rw [isEmp_iff.1 z1, seqE_emp]; show Ex.empty = seqE _ Ex.empty; rw [seqE_emp]
    | false =>
      cases z2 : z.isEps with
      | true => rw [isEps_iff.1 z2, seqE_eps_nf]; rfl
      | false =>
        have e1 : seqE (.seq c d) z = seqE c (seqE d z) := by simp only [seqE, z1, z2]; rfl
        rw [e1, ic, id']
        simp only [seqE]
        split
        · rename_i hb
          rw [isEmp_iff.1 hb, seqE_emp, seqE_emp]
        · split
          · rename_i hb
            rw [isEps_iff.1 hb, seqE_eps_nf, seqE_plain c1 c2 c3 d1 d2]
          · rfl
where
  plain (x z y : Ex) (h1 : x.isEmp = false) (h2 : x.isEps = false) (h3 : x.isSeq = false) : seqE (seqE x z) y = seqE x (seqE z y) := by
    cases z1 : z.isEmp with
    | true => rw [isEmp_iff.1 z1, seqE_emp]; show Ex.empty = seqE _ Ex.empty; rw [seqE_emp]
    | false =>
      cases z2 : z.isEps with
      | true => rw [isEps_iff.1 z2, seqE_eps_nf]; rfl
      | false =>
        rw [seqE_plain h1 h2 h3 z1 z2]
        simp only [seqE]
        split
        · rename_i hb
          rw [isEmp_iff.1 hb, seqE_emp, seqE_emp]
        · split
          · rename_i hb
            rw [isEps_iff.1 hb, seqE_eps_nf, seqE_plain h1 h2 h3 z1 z2]
          · rfl
theorem seqF_from {l : List Ex} (y : Ex) (h : ∀ x ∈ l, NF x) : l.foldr seqE y = seqE (seqF l) y := by
  unfold seqF
  induction l with
  | nil => rfl
  | cons x l ih => rw [List.foldr_cons, List.foldr_cons, ih fun z hz => h z (List.mem_cons_of_mem _ hz), seqE_assoc _ _ _ (h x (by simp))]
theorem nfs_nf (l : List Ex) : ∀ x ∈ l.map nfE, NF x := fun x hx => by
  obtain ⟨e, _, rfl⟩ := List.mem_map.1 hx
  exact nf_nf e
theorem seqF_part : ∀ e : Ex, seqF ((partE 4 e).map nfE) = nfE e
  | .empty => rfl
  | .eps => rfl
  | .cls s => rfl
  | .star a => seqE_eps_nf
  | .alt a b => seqE_eps_nf
  | .seq a b => by
    have ha := seqF_part a
    have hb := seqF_part b
    have e : partE 4 (.seq a b) = partE 4 a ++ partE 4 b := by simp [partE]
    rw [e, List.map_append]
    unfold seqF at hb ⊢
    rw [List.foldr_append, hb, seqF_from _ (nfs_nf _), ha]
    rfl
theorem seqF_parts (l : List Ex) : seqF ((partL 4 l).map nfE) = seqF (l.map nfE) := by
  induction l with
  | nil => rfl
  | cons e l ih =>
    have e1 : partL 4 (e :: l) = partE 4 e ++ partL 4 l := rfl
    rw [e1, List.map_append]
    unfold seqF at ih ⊢
    rw [List.foldr_append, ih, seqF_from _ (nfs_nf _), seqF_part]
    rfl
theorem seq_whole (l : List Ex) : seqP (partL 4 ((partL 4 l).map nfE)) = seqF (l.map nfE) := by
  rw [seqL_eq (nfs_nf _), seqF_parts]
theorem seq_node (a b : Ex) : seqP (partL 4 ((partL 4 [a, b]).map nfE)) = nfE (.seq a b) := by
  rw [seq_whole]
  show seqE (nfE a) (seqE (nfE b) .eps) = _
  rw [seqE_eps_nf]
  rfl
def bareL (p : List Ex) : List Ex := p.filter fun x => !x.isEmp && !x.isCls
def gathP (p : List Ex) : List Ex := if setE p = Ws.nil then bareL p else bareL p ++ [.cls (setE p)]
theorem flat_part : ∀ e : Ex, flatE e = (partE 5 e).filter fun x => !x.isEmp
  | .empty => rfl
  | .eps => rfl
  | .cls s => rfl
  | .star a => rfl
  | .seq a b => rfl
  | .alt a b => by
    have e : partE 5 (.alt a b) = partE 5 a ++ partE 5 b := by simp [partE]
    rw [e, List.filter_append, ← flat_part a, ← flat_part b]
    rfl
theorem flats_part (l : List Ex) : l.flatMap flatE = (partL 5 l).filter fun x => !x.isEmp := by
  induction l with
  | nil => rfl
  | cons e l ih =>
    have e1 : partL 5 (e :: l) = partE 5 e ++ partL 5 l := rfl
    rw [e1, List.filter_append, ← ih, ← flat_part]
    rfl
theorem setE_filter (p : List Ex) : setE (p.filter fun x => !x.isEmp) = setE p := by
  unfold setE
  congr 1
  induction p with
  | nil => rfl
  | cons x p ih =>
    cases x with
    | empty => rw [List.filter_cons]; exact ih
    | eps => rw [List.filter_cons]; exact ih
    | cls s => rw [List.filter_cons]; exact congrArg (List.cons s) ih
    | seq a b => rw [List.filter_cons]; exact ih
    | alt a b => rw [List.filter_cons]; exact ih
    | star a => rw [List.filter_cons]; exact ih
theorem gath_part (l : List Ex) : gathE (l.flatMap flatE) = gathP (partL 5 l) := by
  unfold gathE gathP
  rw [flats_part, setE_filter]
  have : restE ((partL 5 l).filter fun x => !x.isEmp) = bareL (partL 5 l) := by
    unfold restE bareL
    rw [List.filter_filter]
    congr 1
    funext x
    rw [Bool.and_comm]
  rw [this]
theorem altE_part (l : List Ex) : altE l = foldA (canE (gathP (partL 5 l))) := by
  unfold altE
  rw [gath_part]
theorem can_ext {X Y : List Ex} (h : ∀ x, x ∈ X ↔ x ∈ Y) : canE X = canE Y :=
  canE_eq (canE_order Y) (canE_nodup Y) fun x => by rw [canE_mem]; exact h x
def Sim (X Y : List Ex) : Prop := (∀ x : Ex, x.isCls = false → (x ∈ X ↔ x ∈ Y)) ∧ setE X = setE Y
theorem Sim.refl (X : List Ex) : Sim X X := ⟨fun _ _ => Iff.rfl, rfl⟩
theorem Sim.trans {X Y Z : List Ex} (h : Sim X Y) (k : Sim Y Z) : Sim X Z := ⟨fun x hx => (h.1 x hx).trans (k.1 x hx), h.2.trans k.2⟩
theorem foldJ_from (l : List Ws) : ∀ z : Ws, l.foldl Ws.join z = z.join (l.foldl Ws.join Ws.nil) := by
  induction l with
  | nil => intro z; exact (Ws.join_nil z).symm
  | cons s l ih => intro z; rw [List.foldl_cons, List.foldl_cons, ih (z.join s), ih (Ws.nil.join s), Ws.nil_join, Ws.join_assoc]
theorem setE_append (X Y : List Ex) : setE (X ++ Y) = (setE X).join (setE Y) := by
  unfold setE
  rw [List.filterMap_append, List.foldl_append, foldJ_from (Y.filterMap clsS)]
theorem Sim.append {X Y Z W : List Ex} (h : Sim X Y) (k : Sim Z W) : Sim (X ++ Z) (Y ++ W) :=
  ⟨fun x hx => by rw [List.mem_append, List.mem_append, h.1 x hx, k.1 x hx], by rw [setE_append, setE_append, h.2, k.2]⟩
theorem gath_mem {l : List Ex} {x : Ex} : x ∈ gathE l ↔ (x ∈ l ∧ x.isCls = false) ∨ (setE l ≠ Ws.nil ∧ x = .cls (setE l)) := by
  unfold gathE
  split
  · rename_i h
    rw [mem_rest]
    exact ⟨fun h => .inl h, fun h' => h'.elim id fun h' => absurd h h'.1⟩
  · rename_i h
    rw [List.mem_append, mem_rest, List.mem_singleton]
    exact ⟨fun h' => h'.elim .inl fun h' => .inr ⟨h, h'⟩, fun h' => h'.elim .inl fun h' => .inr h'.2⟩
theorem Sim.can {X Y : List Ex} (h : Sim X Y) : canE (gathE X) = canE (gathE Y) := by
  refine can_ext fun x => ?_
  rw [gath_mem, gath_mem, h.2]
  constructor
  · rintro (⟨h1, h2⟩ | h1)
    · exact .inl ⟨(h.1 x h2).1 h1, h2⟩
    · exact .inr h1
  · rintro (⟨h1, h2⟩ | h1)
    · exact .inl ⟨(h.1 x h2).2 h1, h2⟩
    · exact .inr h1
theorem sim_can {X : List Ex} (hw : Ex.Wfs X) : Sim (canE (gathE X)) X := by
  refine ⟨fun x hx => ?_, ?_⟩
  · rw [canE_mem, gath_mem]
    constructor
    · rintro (h | ⟨_, rfl⟩)
      · exact h.1
      · cases hx
    · exact fun h => .inl ⟨h, hx⟩
  · by_cases hn : setE X = Ws.nil
    · rw [hn]
      refine setE_none fun t ht => ?_
      rw [canE_mem, gath_mem] at ht
      rcases ht with ht | ht
      · cases ht.2
      · exact ht.1 hn
    · refine setE_one (setE_ok hw) ?_ fun t ht => ?_
      · rw [canE_mem, gath_mem]; exact .inr ⟨hn, rfl⟩
      · rw [canE_mem, gath_mem] at ht
        rcases ht with ht | ht
        · cases ht.2
        · exact (Ex.cls.inj ht.2)
theorem flat_alt {l : List Ex} (h : ∀ x ∈ l, NF x) : flatE (altE l) = canE (gathE (l.flatMap flatE)) := by
  unfold altE
  refine flat_fold _ (gath_ok fun x hx => ?_).1
  obtain ⟨e, he, hx⟩ := List.mem_flatMap.1 hx
  exact (h e he).row.2.1.1 x hx
theorem sim_part : ∀ e : Ex, e.Wf → Sim (flatE (nfE e)) (((partE 5 e).map nfE).flatMap flatE)
  | .empty, _ => Sim.refl _
  | .eps, _ => Sim.refl _
  | .cls s, _ => Sim.refl _
  | .star a, _ => by simp [partE]; exact Sim.refl _
  | .seq a b, _ => by simp [partE]; exact Sim.refl _
  | .alt a b, h => by
    have ha := sim_part a h.1
    have hb := sim_part b h.2
    have e : partE 5 (.alt a b) = partE 5 a ++ partE 5 b := by simp [partE]
    have hw : Ex.Wfs [nfE a, nfE b] := fun x hx => by
      simp at hx
      rcases hx with rfl | rfl
      · exact nf_wf a h.1
      · exact nf_wf b h.2
    have hn : ∀ x ∈ [nfE a, nfE b], NF x := fun x hx => by
      simp at hx
      rcases hx with rfl | rfl
      · exact nf_nf a
      · exact nf_nf b
    rw [e, List.map_append, List.flatMap_append]
    show Sim (flatE (altE [nfE a, nfE b])) _
    rw [flat_alt hn]
    refine (sim_can (flats_wf hw)).trans ?_
    have e2 : [nfE a, nfE b].flatMap flatE = flatE (nfE a) ++ flatE (nfE b) := by simp
    rw [e2]
    exact ha.append hb
theorem sim_parts {l : List Ex} (h : Ex.Wfs l) : Sim ((l.map nfE).flatMap flatE) (((partL 5 l).map nfE).flatMap flatE) := by
  induction l with
  | nil => exact Sim.refl _
  | cons e l ih =>
    have e1 : partL 5 (e :: l) = partE 5 e ++ partL 5 l := rfl
    rw [e1, List.map_append, List.flatMap_append, List.map_cons, List.flatMap_cons]
    exact (sim_part e (h e (by simp))).append (ih fun x hx => h x (List.mem_cons_of_mem _ hx))
theorem alt_whole {l : List Ex} (h : Ex.Wfs l) : altE ((partL 5 l).map nfE) = altE (l.map nfE) := by
  unfold altE
  rw [(sim_parts h).can]
theorem alt_node {a b : Ex} (h : (Ex.alt a b).Wf) : altE ((partL 5 [a, b]).map nfE) = nfE (.alt a b) := by
  rw [alt_whole fun x hx => by
    simp at hx
    rcases hx with rfl | rfl
    · exact h.1
    · exact h.2]
  rfl
end Go.Proofs.YtiegejbbjlhpdaaGreatDoor
/- Lemmas of mine. -/
namespace Go.Proofs.YtiegejbbjlhpdaaGreatDoor
inductive Ex.Fit : Ex → List UInt8 → Prop
  | eps : Ex.Fit .eps []
  | cls {s : Ws} {c : UInt8} : s.has c.toNat = true → Ex.Fit (.cls s) [c]
  | seq {a b : Ex} {u v : List UInt8} : Ex.Fit a u → Ex.Fit b v → Ex.Fit (.seq a b) (u ++ v)
  | altL {a b : Ex} {u : List UInt8} : Ex.Fit a u → Ex.Fit (.alt a b) u
  | altR {a b : Ex} {u : List UInt8} : Ex.Fit b u → Ex.Fit (.alt a b) u
  | none {a : Ex} : Ex.Fit (.star a) []
  | more {a : Ex} {u v : List UInt8} : Ex.Fit a u → Ex.Fit (.star a) v → Ex.Fit (.star a) (u ++ v)
theorem fit_empty {u : List UInt8} : ¬ Ex.Fit .empty u := fun h => by cases h
theorem fit_eps {u : List UInt8} : Ex.Fit .eps u ↔ u = [] := ⟨fun h => by cases h; rfl, fun h => by rw [h]; exact .eps⟩
theorem fit_cls {s : Ws} {u : List UInt8} : Ex.Fit (.cls s) u ↔ ∃ c : UInt8, u = [c] ∧ s.has c.toNat = true := ⟨fun h => by cases h with | cls h => exact ⟨_, rfl, h⟩, fun ⟨c, h1, h2⟩ => by rw [h1]; exact .cls h2⟩
theorem fit_seq {a b : Ex} {u : List UInt8} : Ex.Fit (.seq a b) u ↔ ∃ v w, u = v ++ w ∧ Ex.Fit a v ∧ Ex.Fit b w := ⟨fun h => by cases h with | seq h1 h2 => exact ⟨_, _, rfl, h1, h2⟩, fun ⟨v, w, h, h1, h2⟩ => by rw [h]; exact .seq h1 h2⟩
theorem fit_alt {a b : Ex} {u : List UInt8} : Ex.Fit (.alt a b) u ↔ Ex.Fit a u ∨ Ex.Fit b u := ⟨fun h => by cases h with
  | altL h => exact .inl h
  | altR h => exact .inr h, fun h => h.elim .altL .altR⟩
theorem fit_star {a : Ex} {u : List UInt8} : Ex.Fit (.star a) u ↔ u = [] ∨ ∃ c v w, u = (c :: v) ++ w ∧ Ex.Fit a (c :: v) ∧ Ex.Fit (.star a) w := by
  constructor
  · intro h
    generalize hz : Ex.star a = z at h
    induction h with
    | none => exact .inl rfl
    | @more x u v h1 h2 _ ih =>
      injection hz with hz
      subst hz
      cases u with
      | nil => exact ih rfl
      | cons c u => exact .inr ⟨c, u, v, rfl, h1, h2⟩
    | eps => cases hz
    | cls _ => cases hz
    | seq _ _ => cases hz
    | altL _ => cases hz
    | altR _ => cases hz
  · rintro (rfl | ⟨c, v, w, rfl, h1, h2⟩)
    · exact .none
    · exact .more h1 h2
theorem star_append {a : Ex} {u v : List UInt8} (h : Ex.Fit (.star a) u) (k : Ex.Fit (.star a) v) : Ex.Fit (.star a) (u ++ v) := by
  generalize hz : Ex.star a = z at h
  induction h with
  | none => injection hz with hz; subst hz; exact k
  | more h1 h2 _ ih =>
    injection hz with hz
    subst hz
    rw [List.append_assoc]
    exact .more h1 (ih rfl)
  | eps => cases hz
  | cls _ => cases hz
  | seq _ _ => cases hz
  | altL _ => cases hz
  | altR _ => cases hz
theorem star_one {a : Ex} {u : List UInt8} (h : Ex.Fit a u) : Ex.Fit (.star a) u := by
  have := Ex.Fit.more h .none
  rwa [List.append_nil] at this
theorem star_star {a : Ex} {u : List UInt8} : Ex.Fit (.star (.star a)) u ↔ Ex.Fit (.star a) u := by
  constructor
  · intro h
    generalize hz : Ex.star (.star a) = z at h
    induction h with
    | none => exact .none
    | more h1 h2 _ ih =>
      injection hz with hz
      subst hz
      exact star_append h1 (ih rfl)
    | eps => cases hz
    | cls _ => cases hz
    | seq _ _ => cases hz
    | altL _ => cases hz
    | altR _ => cases hz
  · exact star_one
theorem star_mono {a b : Ex} (h : ∀ u, Ex.Fit a u → Ex.Fit b u) {u : List UInt8} (k : Ex.Fit (.star a) u) : Ex.Fit (.star b) u := by
  generalize hz : Ex.star a = z at k
  induction k with
  | none => exact .none
  | more h1 h2 _ ih =>
    injection hz with hz
    subst hz
    exact .more (h _ h1) (ih rfl)
  | eps => cases hz
  | cls _ => cases hz
  | seq _ _ => cases hz
  | altL _ => cases hz
  | altR _ => cases hz
theorem mkS_fit (a b : Ex) (u : List UInt8) : Ex.Fit (mkS a b) u ↔ Ex.Fit (.seq a b) u := by
  unfold mkS
  split
  · rename_i h
    rw [isEmp_iff.1 h, fit_seq]
    exact ⟨fun h => (fit_empty h).elim, fun ⟨_, _, _, _, h⟩ => (fit_empty h).elim⟩
  · split
    · rename_i h
      rw [isEps_iff.1 h, fit_seq]
      constructor
      · exact fun h => ⟨u, [], by simp, h, .eps⟩
      · rintro ⟨v, w, rfl, h1, h2⟩
        rw [fit_eps.1 h2, List.append_nil]
        exact h1
    · exact Iff.rfl
theorem seqE_fit : ∀ (a b : Ex) (u : List UInt8), Ex.Fit (seqE a b) u ↔ Ex.Fit (.seq a b) u
  | .empty, b, u => by
    rw [fit_seq]
    exact ⟨fun h => (fit_empty h).elim, fun ⟨_, _, _, h, _⟩ => (fit_empty h).elim⟩
  | .eps, b, u => by
    rw [fit_seq]
    constructor
    · exact fun h => ⟨[], u, rfl, .eps, h⟩
    · rintro ⟨v, w, rfl, h1, h2⟩
      rw [fit_eps.1 h1]
      exact h2
  | .cls s, b, u => mkS_fit _ _ _
  | .alt x y, b, u => mkS_fit _ _ _
  | .star x, b, u => mkS_fit _ _ _
  | .seq c d, b, u => by
    have hd := seqE_fit d b
    have hc := seqE_fit c (seqE d b) u
    have hm := mkS_fit (.seq c d) b u
    simp only [seqE]
    unfold mkS at hm
    split
    · rename_i h
      rw [if_pos h] at hm
      exact hm
    · rename_i h
      rw [if_neg h] at hm
      split
      · rename_i h2
        rw [if_pos h2] at hm
        exact hm
      · rw [hc, fit_seq, fit_seq]
        constructor
        · rintro ⟨v, w, rfl, h1, h2⟩
          obtain ⟨x, y, rfl, h3, h4⟩ := fit_seq.1 ((hd w).1 h2)
          exact ⟨v ++ x, y, by simp, .seq h1 h3, h4⟩
        · rintro ⟨v, w, rfl, h1, h2⟩
          obtain ⟨x, y, rfl, h3, h4⟩ := fit_seq.1 h1
          exact ⟨x, y ++ w, by simp, h3, (hd _).2 (.seq h4 h2)⟩
theorem foldA_fit : ∀ (l : List Ex) (u : List UInt8), Ex.Fit (foldA l) u ↔ ∃ x ∈ l, Ex.Fit x u
  | [], u => ⟨fun h => (fit_empty h).elim, fun ⟨_, h, _⟩ => by cases h⟩
  | [r], u => by simp [foldA]
  | r :: r' :: l, u => by
    have ih := foldA_fit (r' :: l) u
    show Ex.Fit (.alt r (foldA (r' :: l))) u ↔ _
    rw [fit_alt, ih]
    simp
theorem flatE_fit : ∀ (e : Ex) (u : List UInt8), (∃ x ∈ flatE e, Ex.Fit x u) ↔ Ex.Fit e u
  | .empty, u => ⟨fun ⟨_, h, _⟩ => (by cases h), fun h => (fit_empty h).elim⟩
  | .eps, u => by simp [flatE]
  | .cls s, u => by simp [flatE]
  | .seq a b, u => by simp [flatE]
  | .star a, u => by simp [flatE]
  | .alt a b, u => by
    have ha := flatE_fit a u
    have hb := flatE_fit b u
    rw [fit_alt, ← ha, ← hb]
    simp only [flatE, List.mem_append]
    constructor
    · rintro ⟨x, h | h, k⟩
      · exact .inl ⟨x, h, k⟩
      · exact .inr ⟨x, h, k⟩
    · rintro (⟨x, h, k⟩ | ⟨x, h, k⟩)
      · exact ⟨x, .inl h, k⟩
      · exact ⟨x, .inr h, k⟩
theorem gath_fit' (l : List Ex) (u : List UInt8) : (∃ x ∈ gathE l, Ex.Fit x u) ↔ ∃ x ∈ l, Ex.Fit x u := by
  constructor
  · rintro ⟨x, hx, hf⟩
    rcases gath_mem.1 hx with h | ⟨_, rfl⟩
    · exact ⟨x, h.1, hf⟩
    · obtain ⟨c, rfl, hc⟩ := fit_cls.1 hf
      rw [setE_has] at hc
      obtain ⟨y, hy, hyc⟩ := List.any_eq_true.1 hc
      simp only [Bool.and_eq_true] at hyc
      cases y with
      | cls s => exact ⟨_, hy, .cls hyc.2⟩
      | empty => cases hyc.1
      | eps => cases hyc.1
      | seq a b => cases hyc.1
      | alt a b => cases hyc.1
      | star a => cases hyc.1
  · rintro ⟨x, hx, hf⟩
    cases hq : x.isCls with
    | false => exact ⟨x, gath_mem.2 (.inl ⟨hx, hq⟩), hf⟩
    | true =>
      cases x with
      | cls s =>
        obtain ⟨c, rfl, hc⟩ := fit_cls.1 hf
        have hh : (setE l).has c.toNat = true := by rw [setE_has]; exact List.any_eq_true.2 ⟨_, hx, by simp only [Ex.isCls, Bool.true_and]; exact hc⟩
        exact ⟨_, gath_mem.2 (.inr ⟨fun e => (by rw [e, Ws.has_nil] at hh; cases hh), rfl⟩), .cls hh⟩
      | empty => cases hq
      | eps => cases hq
      | seq a b => cases hq
      | alt a b => cases hq
      | star a => cases hq
theorem altE_fit' (l : List Ex) (u : List UInt8) : Ex.Fit (altE l) u ↔ ∃ x ∈ l, Ex.Fit x u := by
  unfold altE
  rw [foldA_fit]
  have h1 : (∃ x ∈ canE (gathE (l.flatMap flatE)), Ex.Fit x u) ↔ ∃ x ∈ gathE (l.flatMap flatE), Ex.Fit x u := by
    constructor <;> (rintro ⟨x, hx, hf⟩; exact ⟨x, by first | exact (canE_mem _ _).1 hx | exact (canE_mem _ _).2 hx, hf⟩)
  rw [h1, gath_fit']
  constructor
  · rintro ⟨x, hx, hf⟩
    obtain ⟨e, he, hx⟩ := List.mem_flatMap.1 hx
    exact ⟨e, he, (flatE_fit e u).1 ⟨x, hx, hf⟩⟩
  · rintro ⟨e, he, hf⟩
    obtain ⟨x, hx, hf⟩ := (flatE_fit e u).2 hf
    exact ⟨x, List.mem_flatMap.2 ⟨e, he, hx⟩, hf⟩
theorem starE_fit (a : Ex) (u : List UInt8) : Ex.Fit (starE a) u ↔ Ex.Fit (.star a) u := by
  cases a with
  | empty =>
    show Ex.Fit .eps u ↔ _
    rw [fit_eps, fit_star]
    exact ⟨.inl, fun h => h.elim id fun ⟨_, _, _, _, h, _⟩ => (fit_empty h).elim⟩
  | eps =>
    show Ex.Fit .eps u ↔ _
    rw [fit_eps, fit_star]
    exact ⟨.inl, fun h => h.elim id fun ⟨_, _, _, _, h, _⟩ => by cases fit_eps.1 h⟩
  | star a => exact star_star.symm
  | cls s => exact Iff.rfl
  | seq a b => exact Iff.rfl
  | alt a b => exact Iff.rfl
theorem nf_fit : ∀ (e : Ex) (u : List UInt8), Ex.Fit (nfE e) u ↔ Ex.Fit e u
  | .empty, u => Iff.rfl
  | .eps, u => Iff.rfl
  | .cls s, u => Iff.rfl
  | .seq a b, u => by
    have ha := nf_fit a
    have hb := nf_fit b
    show Ex.Fit (seqE (nfE a) (nfE b)) u ↔ _
    rw [seqE_fit, fit_seq, fit_seq]
    constructor
    · rintro ⟨v, w, h, h1, h2⟩; exact ⟨v, w, h, (ha v).1 h1, (hb w).1 h2⟩
    · rintro ⟨v, w, h, h1, h2⟩; exact ⟨v, w, h, (ha v).2 h1, (hb w).2 h2⟩
  | .alt a b, u => by
    have ha := nf_fit a u
    have hb := nf_fit b u
    show Ex.Fit (altE [nfE a, nfE b]) u ↔ _
    rw [altE_fit', fit_alt, ← ha, ← hb]
    simp
  | .star a, u => by
    have ha := nf_fit a
    show Ex.Fit (starE (nfE a)) u ↔ _
    rw [starE_fit]
    exact ⟨star_mono fun u h => (ha u).1 h, star_mono fun u h => (ha u).2 h⟩
end Go.Proofs.YtiegejbbjlhpdaaGreatDoor
/- Lemmas of mine. -/
namespace Go.Proofs.YtiegejbbjlhpdaaGreatDoor
def segT (s : List UInt8) (i j : Nat) : List UInt8 := (s.drop i).take (j - i)
theorem seg_self (s : List UInt8) (i : Nat) : segT s i i = [] := by simp [segT]
theorem seg_add (s : List UInt8) {i j k : Nat} (h1 : i ≤ j) (h2 : j ≤ k) : segT s i j ++ segT s j k = segT s i k := by
  unfold segT
  rw [show k - i = (j - i) + (k - j) by omega, List.take_add, List.drop_drop, show i + (j - i) = j by omega]
theorem seg_len (s : List UInt8) {i j : Nat} (h1 : i ≤ j) (h2 : j ≤ s.length) : (segT s i j).length = j - i := by
  unfold segT
  rw [List.length_take, List.length_drop]; omega
theorem seg_cut (s : List UInt8) {i j : Nat} (h1 : i ≤ j) (h2 : j ≤ s.length) {u v : List UInt8} (h : segT s i j = u ++ v) : ∃ k, i ≤ k ∧ k ≤ j ∧ segT s i k = u ∧ segT s k j = v := by
  have hl := congrArg List.length h
  rw [seg_len s h1 h2, List.length_append] at hl
  have hk := seg_add s (i := i) (j := i + u.length) (k := j) (by omega) (by omega)
  rw [h] at hk
  have hlen : (segT s i (i + u.length)).length = u.length := by rw [seg_len s (by omega) (by omega)]; omega
  have := List.append_inj hk hlen
  exact ⟨i + u.length, by omega, by omega, this.1, this.2⟩
theorem seg_one (s : List UInt8) {i : Nat} (h : i < s.length) : segT s i (i + 1) = [s[i]] := by
  unfold segT
  rw [show i + 1 - i = 1 by omega, List.drop_eq_getElem_cons h]
  rfl
def EndsP (e : Ex) (s : List UInt8) (F : Nat → Prop) (j : Nat) : Prop := j ≤ s.length ∧ ∃ i, i ≤ j ∧ F i ∧ Ex.Fit e (segT s i j)
theorem ends_empty {s : List UInt8} {F : Nat → Prop} {j : Nat} : ¬ EndsP .empty s F j := fun ⟨_, _, _, _, h⟩ => fit_empty h
theorem ends_eps {s : List UInt8} {F : Nat → Prop} {j : Nat} (hj : j ≤ s.length) : EndsP .eps s F j ↔ F j := by
  constructor
  · rintro ⟨_, i, h1, h2, h3⟩
    have hl := congrArg List.length (fit_eps.1 h3)
    rw [seg_len s h1 hj] at hl
    simp at hl
    obtain rfl : i = j := by omega
    exact h2
  · exact fun h => ⟨hj, j, Nat.le_refl _, h, by rw [seg_self]; exact .eps⟩
theorem ends_cls {s : List UInt8} {F : Nat → Prop} {t : Ws} {j : Nat} : EndsP (.cls t) s F j ↔ ∃ i, ∃ h : i < s.length, j = i + 1 ∧ F i ∧ t.has s[i].toNat = true := by
  constructor
  · rintro ⟨hj, i, h1, h2, h3⟩
    obtain ⟨c, hc, hh⟩ := fit_cls.1 h3
    have hl := congrArg List.length hc
    rw [seg_len s h1 hj] at hl
    simp at hl
    have hi : i < s.length := by omega
    obtain rfl : j = i + 1 := by omega
    rw [seg_one s hi] at hc
    injection hc with hc
    exact ⟨i, hi, rfl, h2, by rw [hc]; exact hh⟩
  · rintro ⟨i, hi, rfl, h2, h3⟩
    exact ⟨by omega, i, by omega, h2, by rw [seg_one s hi]; exact .cls h3⟩
theorem ends_seq {a b : Ex} {s : List UInt8} {F : Nat → Prop} {j : Nat} : EndsP (.seq a b) s F j ↔ EndsP b s (EndsP a s F) j := by
  constructor
  · rintro ⟨hj, i, h1, h2, h3⟩
    obtain ⟨v, w, h, ha, hb⟩ := fit_seq.1 h3
    obtain ⟨k, k1, k2, e1, e2⟩ := seg_cut s h1 hj h
    exact ⟨hj, k, k2, ⟨by omega, i, k1, h2, by rw [e1]; exact ha⟩, by rw [e2]; exact hb⟩
  · rintro ⟨hj, k, k2, ⟨_, i, k1, h2, ha⟩, hb⟩
    exact ⟨hj, i, by omega, h2, by rw [← seg_add s k1 k2]; exact .seq ha hb⟩
theorem ends_alt {a b : Ex} {s : List UInt8} {F : Nat → Prop} {j : Nat} : EndsP (.alt a b) s F j ↔ EndsP a s F j ∨ EndsP b s F j := by
  constructor
  · rintro ⟨hj, i, h1, h2, h3⟩
    rcases fit_alt.1 h3 with h | h
    · exact .inl ⟨hj, i, h1, h2, h⟩
    · exact .inr ⟨hj, i, h1, h2, h⟩
  · rintro (⟨hj, i, h1, h2, h⟩ | ⟨hj, i, h1, h2, h⟩)
    · exact ⟨hj, i, h1, h2, .altL h⟩
    · exact ⟨hj, i, h1, h2, .altR h⟩
theorem ends_mono {e : Ex} {s : List UInt8} {F G : Nat → Prop} (h : ∀ i, F i → G i) {j : Nat} : EndsP e s F j → EndsP e s G j := fun ⟨hj, i, h1, h2, h3⟩ => ⟨hj, i, h1, h i h2, h3⟩
theorem ends_from {a : Ex} {s : List UInt8} {F : Nat → Prop} {j : Nat} (hj : j ≤ s.length) (h : F j) : EndsP (.star a) s F j := ⟨hj, j, Nat.le_refl _, h, by rw [seg_self]; exact .none⟩
theorem ends_more {a : Ex} {s : List UInt8} {F : Nat → Prop} {j : Nat} (h : EndsP a s (EndsP (.star a) s F) j) : EndsP (.star a) s F j := by
  obtain ⟨hj, k, k2, ⟨_, i, k1, h2, ha⟩, hb⟩ := h
  exact ⟨hj, i, by omega, h2, by rw [← seg_add s k1 k2]; exact star_append ha (star_one hb)⟩
theorem ends_least {a : Ex} {s : List UInt8} {F G : Nat → Prop} (h0 : ∀ i, i ≤ s.length → F i → G i) (h1 : ∀ j, EndsP a s G j → G j) {j : Nat} (h : EndsP (.star a) s F j) : G j := by
  obtain ⟨hj, i, hij, hF, hfit⟩ := h
  have key : ∀ (n i : Nat), j - i ≤ n → i ≤ j → G i → Ex.Fit (.star a) (segT s i j) → G j := by
    intro n
    induction n with
    | zero =>
      intro i hn hij hG _
      obtain rfl : i = j := by omega
      exact hG
    | succ n ih =>
      intro i hn hij hG hf
      rcases fit_star.1 hf with h | ⟨c, v, w, h, ha, hs⟩
      · have hl := congrArg List.length h
        rw [seg_len s hij hj] at hl
        simp at hl
        obtain rfl : i = j := by omega
        exact hG
      · obtain ⟨k, k1, k2, e1, e2⟩ := seg_cut s hij hj h
        have hl := congrArg List.length e1
        rw [seg_len s k1 (by omega)] at hl
        simp at hl
        exact ih k (by omega) k2 (h1 k ⟨by omega, i, k1, hG, by rw [e1]; exact ha⟩) (by rw [e2]; exact hs)
  exact key (j - i) i (Nat.le_refl _) hij (h0 i (by omega) hF) hfit
theorem fits_ends (e : Ex) (s : List UInt8) (j : Nat) (hj : j ≤ s.length) : EndsP e s (fun i => i = 0) j ↔ Ex.Fit e (s.take j) := by
  have h0 : segT s 0 j = s.take j := by simp [segT]
  constructor
  · rintro ⟨_, i, _, rfl, h⟩
    rw [← h0]; exact h
  · exact fun h => ⟨hj, 0, Nat.zero_le _, rfl, by rw [h0]; exact h⟩
end Go.Proofs.YtiegejbbjlhpdaaGreatDoor
/- Lemmas of mine. -/
namespace Go.Proofs.YtiegejbbjlhpdaaGreatDoor
def Also (H : Nat → Prop) (l : List Nat) : Nat → Prop := fun i => H i ∨ i ∈ l
def Ask (s : List UInt8) (H : Nat → Prop) (l : List Nat) : Prop := l.Nodup ∧ ∀ i ∈ l, i ≤ s.length ∧ ¬ H i
def Tld (e : Ex) (s : List UInt8) (H : Nat → Prop) (l l' : List Nat) : Prop := l'.Nodup ∧ ∀ j, j ∈ l' ↔ EndsP e s (Also H l) j ∧ ¬ EndsP e s H j
theorem also_nil (H : Nat → Prop) : Also H [] = H := by funext i; simp [Also]
theorem also_also (H : Nat → Prop) (l m : List Nat) : Also (Also H l) m = Also H (l ++ m) := by funext i; simp [Also, or_assoc]
theorem endsP_le {e : Ex} {s : List UInt8} {F : Nat → Prop} {j : Nat} (h : EndsP e s F j) : j ≤ s.length := h.1
theorem tld_ask {e : Ex} {s : List UInt8} {H : Nat → Prop} {l l' : List Nat} (h : Tld e s H l l') : Ask s (EndsP e s H) l' := ⟨h.1, fun i hi => ⟨((h.2 i).1 hi).1.1, ((h.2 i).1 hi).2⟩⟩
theorem tld_also {e : Ex} {s : List UInt8} {H : Nat → Prop} {l l' : List Nat} (h : Tld e s H l l') : Also (EndsP e s H) l' = EndsP e s (Also H l) := by
  funext j
  apply propext
  unfold Also
  rw [h.2 j]
  constructor
  · rintro (h1 | ⟨h1, _⟩)
    · exact ends_mono (fun i hi => .inl hi) h1
    · exact h1
  · intro h1
    rcases Classical.em (EndsP e s H j) with h2 | h2
    · exact .inl h2
    · exact .inr ⟨h1, h2⟩
theorem tld_none {e : Ex} {s : List UInt8} {H : Nat → Prop} : Tld e s H [] [] := ⟨List.nodup_nil, fun j => by rw [also_nil]; simp⟩
theorem tld_empty {s : List UInt8} {H : Nat → Prop} {l : List Nat} : Tld .empty s H l [] := ⟨List.nodup_nil, fun j => by simp only [List.not_mem_nil, false_iff, not_and]; exact fun h => (ends_empty h).elim⟩
theorem tld_eps {s : List UInt8} {H : Nat → Prop} {l : List Nat} (h : Ask s H l) : Tld .eps s H l l := ⟨h.1, fun j => by
  constructor
  · intro hj
    obtain ⟨h1, h2⟩ := h.2 j hj
    exact ⟨(ends_eps h1).2 (.inr hj), fun h3 => h2 ((ends_eps h1).1 h3)⟩
  · rintro ⟨h1, h2⟩
    have hj := endsP_le h1
    rw [ends_eps hj] at h1 h2
    exact h1.resolve_left h2⟩
def clsP (t : Ws) (s : List UInt8) (i : Nat) : Bool := match s[i]? with
  | some c => t.has c.toNat
  | none => false
def clsL (t : Ws) (s : List UInt8) (l : List Nat) : List Nat := (l.filter (clsP t s)).map (· + 1)
theorem clsP_iff {t : Ws} {s : List UInt8} {i : Nat} : clsP t s i = true ↔ ∃ h : i < s.length, t.has s[i].toNat = true := by
  unfold clsP
  by_cases h : i < s.length
  · rw [List.getElem?_eq_getElem h]; exact ⟨fun h' => ⟨h, h'⟩, fun ⟨_, h'⟩ => h'⟩
  · rw [List.getElem?_eq_none (by omega)]
    exact ⟨fun h' => (by cases h'), fun ⟨h', _⟩ => absurd h' h⟩
theorem tld_cls {t : Ws} {s : List UInt8} {H : Nat → Prop} {l : List Nat} (h : Ask s H l) : Tld (.cls t) s H l (clsL t s l) := by
  constructor
  · unfold clsL
    have h1 : (l.filter (clsP t s)).Nodup := h.1.filter _
    exact List.Pairwise.map _ (fun a b hab => by omega) h1
  · intro j
    unfold clsL
    rw [List.mem_map]
    constructor
    · rintro ⟨i, hi, rfl⟩
      obtain ⟨h1, h2⟩ := List.mem_filter.1 hi
      obtain ⟨h3, h4⟩ := clsP_iff.1 h2
      refine ⟨ends_cls.2 ⟨i, h3, rfl, .inr h1, h4⟩, fun h5 => ?_⟩
      obtain ⟨k, hk, hk2, hk3, _⟩ := ends_cls.1 h5
      obtain rfl : i = k := by omega
      exact (h.2 i h1).2 hk3
    · rintro ⟨h1, h2⟩
      obtain ⟨i, hi, rfl, h3, h4⟩ := ends_cls.1 h1
      refine ⟨i, List.mem_filter.2 ⟨?_, clsP_iff.2 ⟨hi, h4⟩⟩, rfl⟩
      exact h3.resolve_left fun h5 => h2 (ends_cls.2 ⟨i, hi, rfl, h5, h4⟩)
theorem endsP_seq (a b : Ex) (s : List UInt8) (F : Nat → Prop) : EndsP (.seq a b) s F = EndsP b s (EndsP a s F) := by funext j; exact propext ends_seq
theorem tld_seq {a b : Ex} {s : List UInt8} {H : Nat → Prop} {l l1 l2 : List Nat} (h1 : Tld a s H l l1) (h2 : Tld b s (EndsP a s H) l1 l2) : Tld (.seq a b) s H l l2 := ⟨h2.1, fun j => by
  rw [h2.2 j, tld_also h1, endsP_seq, endsP_seq]⟩
open Classical in
noncomputable def newL (T : Nat → Prop) (l : List Nat) : List Nat := l.filter fun i => decide (¬ T i)
theorem mem_newL {T : Nat → Prop} {l : List Nat} {i : Nat} : i ∈ newL T l ↔ i ∈ l ∧ ¬ T i := by simp [newL]
theorem nodup_newL {T : Nat → Prop} {l : List Nat} (h : l.Nodup) : (newL T l).Nodup := h.filter _
theorem newL_len (T : Nat → Prop) (l : List Nat) : (newL T l).length ≤ l.length := List.length_filter_le _ _
theorem also_newL (T : Nat → Prop) (l : List Nat) : Also T (newL T l) = Also T l := by
  funext i
  apply propext
  unfold Also
  rw [mem_newL]
  constructor
  · rintro (h | ⟨h, _⟩)
    · exact .inl h
    · exact .inr h
  · rintro (h | h)
    · exact .inl h
    · rcases Classical.em (T i) with h2 | h2
      · exact .inl h2
      · exact .inr ⟨h, h2⟩
theorem endsP_alt (a b : Ex) (s : List UInt8) (F : Nat → Prop) (j : Nat) : EndsP (.alt a b) s F j ↔ EndsP a s F j ∨ EndsP b s F j := ends_alt
theorem tld_alt {a b : Ex} {s : List UInt8} {H : Nat → Prop} {l l1 l2 : List Nat} (h1 : Tld a s H l l1) (h2 : Tld b s H l l2) :
    Tld (.alt a b) s H l (newL (EndsP (.alt a b) s H) l1 ++ newL (Also (EndsP (.alt a b) s H) l1) l2) ∧ Also (Also (EndsP (.alt a b) s H) l1) l2 = EndsP (.alt a b) s (Also H l) := by
  have ha := tld_also h1
  have hb := tld_also h2
  have key : Also (Also (EndsP (.alt a b) s H) l1) l2 = EndsP (.alt a b) s (Also H l) := by
    funext j
    apply propext
    rw [endsP_alt, ← ha, ← hb]
    unfold Also
    rw [endsP_alt]
    constructor
    · rintro (((h | h) | h) | h)
      · exact .inl (.inl h)
      · exact .inr (.inl h)
      · exact .inl (.inr h)
      · exact .inr (.inr h)
    · rintro ((h | h) | (h | h))
      · exact .inl (.inl (.inl h))
      · exact .inl (.inr h)
      · exact .inl (.inl (.inr h))
      · exact .inr h
  refine ⟨⟨?_, fun j => ?_⟩, key⟩
  · rw [List.nodup_append]
    refine ⟨nodup_newL h1.1, nodup_newL h2.1, fun x hx y hy e => ?_⟩
    subst e
    exact (mem_newL.1 hy).2 (.inr (mem_newL.1 hx).1)
  · rw [← key, List.mem_append, mem_newL, mem_newL]
    unfold Also
    constructor
    · rintro (⟨h, h'⟩ | ⟨h, h'⟩)
      · exact ⟨.inl (.inr h), h'⟩
      · exact ⟨.inr h, fun h3 => h' (.inl h3)⟩
    · rintro ⟨(h | h) | h, h'⟩
      · exact absurd h h'
      · exact .inl ⟨h, h'⟩
      · rcases Classical.em (j ∈ l1) with h2 | h2
        · exact .inl ⟨h2, h'⟩
        · exact .inr ⟨h, fun h3 => h3.elim h' h2⟩
structure StarI (a : Ex) (s : List UInt8) (H : Nat → Prop) (l : List Nat) (K : Nat → Prop) (c all : List Nat) : Prop where
  ask : Ask s K c
  got : K = Also (EndsP (.star a) s H) all
  nd : all.Nodup
  new : ∀ i ∈ all, ¬ EndsP (.star a) s H i
  inn : ∀ i, i ≤ s.length → Also H l i → Also K c i
  out : ∀ i, Also K c i → EndsP (.star a) s (Also H l) i
  clo : ∀ j, EndsP a s K j → Also K c j
theorem star_begin {a : Ex} {s : List UInt8} {H : Nat → Prop} {l : List Nat} (h : Ask s H l) : StarI a s H l (EndsP (.star a) s H) (newL (EndsP (.star a) s H) l) [] where
  ask := ⟨nodup_newL h.1, fun i hi => ⟨(h.2 i (mem_newL.1 hi).1).1, (mem_newL.1 hi).2⟩⟩
  got := (also_nil _).symm
  nd := List.nodup_nil
  new := fun i hi => by cases hi
  inn := fun i hi h1 => by
    rw [also_newL]
    exact h1.elim (fun h2 => .inl (ends_from hi h2)) .inr
  out := fun i hi => by
    rw [also_newL] at hi
    rcases hi with h1 | h1
    · exact ends_mono (fun i hi => .inl hi) h1
    · exact ends_from (h.2 i h1).1 (.inr h1)
  clo := fun j hj => .inl (ends_more hj)
theorem star_round {a : Ex} {s : List UInt8} {H K : Nat → Prop} {l c all l' : List Nat} (h : StarI a s H l K c all) (ht : Tld a s K c l') : StarI a s H l (Also K c) (newL (Also K c) l') (all ++ c) where
  ask := ⟨nodup_newL ht.1, fun i hi => ⟨((ht.2 i).1 (mem_newL.1 hi).1).1.1, (mem_newL.1 hi).2⟩⟩
  got := by rw [h.got, also_also]
  nd := by
    rw [List.nodup_append]
    refine ⟨h.nd, h.ask.1, fun x hx y hy e => ?_⟩
    subst e
    exact (h.ask.2 x hy).2 (by rw [h.got]; exact .inr hx)
  new := fun i hi => by
    rcases List.mem_append.1 hi with h1 | h1
    · exact h.new i h1
    · exact fun h2 => (h.ask.2 i h1).2 (by rw [h.got]; exact .inl h2)
  inn := fun i hi h1 => .inl (h.inn i hi h1)
  out := fun i hi => by
    rw [also_newL] at hi
    rcases hi with h1 | h1
    · exact h.out i h1
    · exact ends_more (ends_mono h.out ((ht.2 i).1 h1).1)
  clo := fun j hj => by
    rw [also_newL]
    rw [← tld_also ht] at hj
    rcases hj with h1 | h1
    · exact .inl (h.clo j h1)
    · exact .inr h1
theorem star_end {a : Ex} {s : List UInt8} {H K : Nat → Prop} {l all : List Nat} (h : StarI a s H l K [] all) : Tld (.star a) s H l all ∧ K = EndsP (.star a) s (Also H l) := by
  have hK : K = EndsP (.star a) s (Also H l) := by
    funext j
    apply propext
    refine ⟨fun hj => h.out j (.inl hj), fun hj => ?_⟩
    refine ends_least (G := K) (fun i hi h1 => ?_) (fun i hi => ?_) hj
    · have := h.inn i hi h1; rw [also_nil] at this; exact this
    · have := h.clo i hi; rw [also_nil] at this; exact this
  refine ⟨⟨h.nd, fun j => ?_⟩, hK⟩
  rw [← hK, h.got]
  unfold Also
  constructor
  · exact fun hj => ⟨.inr hj, h.new j hj⟩
  · rintro ⟨h1 | h1, h2⟩
    · exact absurd h1 h2
    · exact h1
theorem places_len : ∀ {n : Nat} {l : List Nat}, l.Nodup → (∀ i ∈ l, i ≤ n) → l.length ≤ n + 1
  | 0, l, hn, hl => by
    match l, hn, hl with
    | [], _, _ => exact Nat.zero_le _
    | [_], _, _ => exact Nat.le_refl _
    | x :: y :: l, hn, hl =>
      have h1 := hl x (by simp)
      have h2 := hl y (by simp)
      simp at hn
      omega
  | n + 1, l, hn, hl => by
    have h1 := places_len (n := n) (l := l.erase (n + 1)) (hn.erase _) fun i hi => by
      have h2 := hl i (List.mem_of_mem_erase hi)
      have h3 : i ≠ n + 1 := fun e => by
        rw [e, hn.mem_erase_iff] at hi
        exact hi.1 rfl
      omega
    by_cases hm : n + 1 ∈ l
    · rw [List.length_erase_of_mem hm] at h1; omega
    · rw [List.erase_of_not_mem hm] at h1; omega
theorem star_len {a : Ex} {s : List UInt8} {H K : Nat → Prop} {l c all : List Nat} (h : StarI a s H l K c all) : (all ++ c).length ≤ s.length + 1 := by
  refine places_len ?_ fun i hi => ?_
  · rw [List.nodup_append]
    refine ⟨h.nd, h.ask.1, fun x hx y hy e => ?_⟩
    subst e
    exact (h.ask.2 x hy).2 (by rw [h.got]; exact .inr hx)
  · refine (h.out i ?_).1
    rcases List.mem_append.1 hi with h1 | h1
    · exact .inl (by rw [h.got]; exact .inr h1)
    · exact .inr h1
open Go.RowKit
structure Fm (X : Nat → Prop) (w w' : World) : Prop where
  os : w'.os = w.os
  tape : w'.tape = w.tape
  output : w'.output = w.output
  size : w.heap.size ≤ w'.heap.size
  block : ∀ k, k < w.heap.size → ¬ X k → w'.heap[k]? = w.heap[k]?
theorem Fm.refl (X : Nat → Prop) (w : World) : Fm X w w := ⟨rfl, rfl, rfl, Nat.le_refl _, fun _ _ _ => rfl⟩
theorem Fm.then {X Y : Nat → Prop} {w w1 w2 : World} (h : Fm X w w1) (k : Fm Y w1 w2) (hY : ∀ x, x < w.heap.size → Y x → X x) : Fm X w w2 :=
  ⟨k.os.trans h.os, k.tape.trans h.tape, k.output.trans h.output, Nat.le_trans h.size k.size, fun x hx hn => (k.block x (Nat.lt_of_lt_of_le hx h.size) fun hy => hn (hY x hx hy)).trans (h.block x hx hn)⟩
theorem Fm.trans {X : Nat → Prop} {w w1 w2 : World} (h : Fm X w w1) (k : Fm X w1 w2) : Fm X w w2 := h.then k fun _ _ h => h
theorem Fm.mono {X Y : Nat → Prop} {w w1 : World} (h : Fm X w w1) (hY : ∀ x, x < w.heap.size → X x → Y x) : Fm Y w w1 := ⟨h.os, h.tape, h.output, h.size, fun x hx hn => h.block x hx fun hy => hn (hY x hx hy)⟩
theorem Fm.below {X : Nat → Prop} {w w1 : World} (h : Below w.heap.size w w1) : Fm X w w1 := ⟨h.os, h.tape, h.output, h.size, fun x hx _ => h.block x hx⟩
theorem Fm.to {X : Nat → Prop} {B : Nat} {w w1 : World} (h : Fm X w w1) (hB : B ≤ w.heap.size) (hX : ∀ x, X x → B ≤ x) : Below B w w1 := ⟨h.os, h.tape, h.output, h.size, fun x hx => h.block x (by omega) fun hy => by have := hX x hy; omega⟩
theorem Fm.grown {X : Nat → Prop} {w w1 : World} {row : Option Nat} (h : w.grownBy w1 row) (hX : ∀ x, row = some x → X x) : Fm X w w1 := ⟨h.os, h.tape, h.output, h.size, fun x hx hn => h.block x hx fun e => hn (hX x e.symm)⟩
theorem Fm.set {X : Nat → Prop} {w : World} (a : Addr) (u : Value) (hX : X a.block) : Fm X w (w.setCell a u) := ⟨rfl, rfl, rfl, by simp [World.setCell], fun x _ hn => Below.heap_setCell _ _ _ _ fun e => hn (by rw [e]; exact hX)⟩
theorem Fm.alloc {X : Nat → Prop} (w : World) (o : Obj) : Fm X w (w.alloc o) := Fm.below ((Below.refl _ w).alloc (Nat.le_refl _) o)
theorem Fm.drew {X : Nat → Prop} (w : World) : Fm X w w.drew := Fm.below (Below.refl _ w).drew
def intsL (l : List Nat) : List Value := l.map fun i : Nat => Value.int .i64 (i : Int)
theorem intsL_len (l : List Nat) : (intsL l).length = l.length := by simp [intsL]
theorem intsL_app (l m : List Nat) : intsL (l ++ m) = intsL l ++ intsL m := by simp [intsL]
def OwnI (w : World) (v : Value) (l : List Nat) : Prop := w.ownsRow 0 3 1 v l.length (intsL l)
theorem OwnI.nil (w : World) : OwnI w (.slice none 0 0) [] := ⟨by simp [intsL], .inl ⟨rfl, rfl⟩⟩
theorem OwnI.lt {w : World} {v : Value} {l : List Nat} (h : OwnI w v l) {f : Nat} (hf : v.ownBlock = some f) : f < w.heap.size := by
  rcases h.2 with ⟨rfl, _⟩ | ⟨g, cap, cur, rfl, _, hg, _⟩
  · cases hf
  · injection hf with hf
    rw [← hf]
    exact (Array.getElem?_eq_some_iff.1 hg).1
theorem OwnI.go {w w' : World} {v : Value} {l : List Nat} (h : OwnI w v l) (hk : ∀ f, v.ownBlock = some f → w'.heap[f]? = w.heap[f]?) : OwnI w' v l := by
  refine ⟨h.1, ?_⟩
  rcases h.2 with h2 | ⟨g, cap, cur, rfl, hb, hg, r⟩
  · exact .inl h2
  · exact .inr ⟨g, cap, cur, rfl, hb, (hk g rfl).trans hg, r⟩
theorem OwnI.fm {X : Nat → Prop} {w w' : World} {v : Value} {l : List Nat} (h : OwnI w v l) (hf : Fm X w w') (hX : ∀ f, v.ownBlock = some f → ¬ X f) : OwnI w' v l := h.go fun f e => hf.block f (h.lt e) (hX f e)
theorem OwnI.below {w w' : World} {v : Value} {l : List Nat} (h : OwnI w v l) (hb : Below w.heap.size w w') : OwnI w' v l := h.go fun f e => hb.block f (h.lt e)
theorem OwnI.form {w : World} {v : Value} {l : List Nat} (h : OwnI w v l) : (v = .slice none 0 0 ∧ l = []) ∨ ∃ f cap cur, v = .slice (some ⟨f, 0, none⟩) l.length cap ∧ w.heap[f]? = some (.cells cur 3) ∧ l.length ≤ cap ∧ cap ≤ maxLen ∧ cur.size = cap ∧ cur.toList.take l.length = intsL l := by
  rcases h.2 with ⟨h1, h2⟩ | ⟨g, cap, cur, h1, _, h2, h3, h4, h5, h6⟩
  · exact .inl ⟨h1, List.length_eq_zero_iff.1 h2⟩
  · exact .inr ⟨g, cap, cur, h1, h2, h3, h4, by simpa using h5, by simpa using h6⟩
theorem OwnI.of {w : World} {f cap : Nat} {cur : Array Value} {l : List Nat} (h2 : w.heap[f]? = some (.cells cur 3)) (h3 : l.length ≤ cap) (h4 : cap ≤ maxLen) (h5 : cur.size = cap) (h6 : cur.toList.take l.length = intsL l) : OwnI w (.slice (some ⟨f, 0, none⟩) l.length cap) l :=
  ⟨by rw [intsL_len, Nat.mul_one], .inr ⟨f, cap, cur, rfl, Nat.zero_le _, h2, h3, h4, by simpa using h5, by simpa using h6⟩⟩
theorem OwnI.len_max {w : World} {v : Value} {l : List Nat} (h : OwnI w v l) : l.length ≤ maxLen := by
  rcases h.form with ⟨_, rfl⟩ | ⟨f, cap, cur, _, _, h3, h4, _⟩
  · exact Nat.zero_le _
  · exact Nat.le_trans h3 h4
theorem OwnI.cell {w : World} {f cap n : Nat} {l : List Nat} (h : OwnI w (.slice (some ⟨f, 0, none⟩) n cap) l) (j : Nat) (hj : j < l.length) : w.cell? ⟨f, j, none⟩ = some (.int .i64 (l[j] : Nat)) := by
  rcases h.form with ⟨h1, _⟩ | ⟨f', cap', cur, h1, h2, h3, h4, h5, h6⟩
  · cases h1
  · injection h1 with h1
    injection h1 with h1
    injection h1 with h1
    subst h1
    rw [Lib.cell_of_heap h2]
    have : (cur.toList.take l.length)[j]? = some (Value.int .i64 (l[j] : Nat)) := by rw [h6]; simp [intsL, hj]
    rw [List.getElem?_take, if_pos hj] at this
    simpa using this
def ToldV (w : World) (tv : Value) (T : Nat → Prop) : Prop := (tv = .slice none 0 0 ∧ ∀ i, ¬ T i) ∨
  ∃ t cap cur m, tv = .slice (some ⟨t, 0, none⟩) 1 cap ∧ w.heap[t]? = some (.cells cur 22) ∧ cur.size = cap ∧ cap ≤ maxLen ∧ 1 ≤ cap ∧ cur[0]? = some (.int .u64 (m : Nat)) ∧ m < 18446744073709551616 ∧ ∀ i, T i ↔ m.testBit i = true
theorem ToldV.lt {w : World} {tv : Value} {T : Nat → Prop} (h : ToldV w tv T) {t : Nat} (ht : tv.ownBlock = some t) : t < w.heap.size := by
  rcases h with ⟨rfl, _⟩ | ⟨g, cap, cur, m, rfl, hg, _⟩
  · cases ht
  · injection ht with ht
    rw [← ht]
    exact (Array.getElem?_eq_some_iff.1 hg).1
theorem ToldV.go {w w' : World} {tv : Value} {T : Nat → Prop} (h : ToldV w tv T) (hk : ∀ t, tv.ownBlock = some t → w'.heap[t]? = w.heap[t]?) : ToldV w' tv T := by
  rcases h with h | ⟨g, cap, cur, m, rfl, hg, r⟩
  · exact .inl h
  · exact .inr ⟨g, cap, cur, m, rfl, (hk g rfl).trans hg, r⟩
def Nd (w : World) (g k : Nat) (s : Ws) (kv tv : Value) : Prop := ∃ sl, w.heap[g]? = some (.cells #[.int .u8 k, .int .u64 s.a, .int .u64 s.b, .int .u64 s.c, .int .u64 s.d, sl, kv, tv] 75)
theorem Nd.go {w w' : World} {g k : Nat} {s : Ws} {kv tv : Value} (h : Nd w g k s kv tv) (hk : w'.heap[g]? = w.heap[g]?) : Nd w' g k s kv tv := by obtain ⟨sl, h⟩ := h; exact ⟨sl, hk.trans h⟩
def Ptrs (w : World) (k : Nat) (gs : List Nat) : Prop := ∃ cur, w.heap[k]? = some (.cells cur 54) ∧ ∀ j (h : j < gs.length), cur[j]? = some (.pointer (some ⟨gs[j], 0, none⟩))
theorem Ptrs.go {w w' : World} {k : Nat} {gs : List Nat} (h : Ptrs w k gs) (hk : w'.heap[k]? = w.heap[k]?) : Ptrs w' k gs := by obtain ⟨sl, h, r⟩ := h; exact ⟨sl, hk.trans h, r⟩
theorem Ptrs.cell {w : World} {k : Nat} {gs : List Nat} (h : Ptrs w k gs) (j : Nat) (hj : j < gs.length) : w.cell? ⟨k, j, none⟩ = some (.pointer (some ⟨gs[j], 0, none⟩)) := by
  obtain ⟨cur, h1, h2⟩ := h
  rw [Lib.cell_of_heap h1]
  exact h2 j hj
def PartAt (s : List UInt8) : Ex → (Nat → Prop) → World → Nat → (Nat → Prop) → Prop
  | .empty, _, w, g, F => F g ∧ (∀ x, F x → x < w.heap.size) ∧ ∃ kv tv, Nd w g 1 Ws.nil kv tv
  | .eps, _, w, g, F => F g ∧ (∀ x, F x → x < w.heap.size) ∧ ∃ kv tv, Nd w g 2 Ws.nil kv tv
  | .cls t, _, w, g, F => F g ∧ (∀ x, F x → x < w.heap.size) ∧ ∃ kv tv, Nd w g 3 t kv tv
  | .seq a b, H, w, g, F => F g ∧ (∀ x, F x → x < w.heap.size) ∧ ∃ tv k kc ga gb Fa Fb, Nd w g 4 Ws.nil (.slice (some ⟨k, 0, none⟩) 2 kc) tv ∧ Ptrs w k [ga, gb] ∧ F k ∧ k ≠ g ∧ PartAt s a H w ga Fa ∧ PartAt s b (EndsP a s H) w gb Fb ∧
      (∀ x, Fa x → F x ∧ x ≠ g ∧ x ≠ k ∧ ¬ Fb x) ∧ (∀ x, Fb x → F x ∧ x ≠ g ∧ x ≠ k)
  | .alt a b, H, w, g, F => F g ∧ (∀ x, F x → x < w.heap.size) ∧ ∃ tv k kc ga gb Fa Fb, Nd w g 5 Ws.nil (.slice (some ⟨k, 0, none⟩) 2 kc) tv ∧ Ptrs w k [ga, gb] ∧ F k ∧ k ≠ g ∧ PartAt s a H w ga Fa ∧ PartAt s b H w gb Fb ∧
      (∀ x, Fa x → F x ∧ x ≠ g ∧ x ≠ k ∧ ¬ Fb x) ∧ (∀ x, Fb x → F x ∧ x ≠ g ∧ x ≠ k) ∧ ToldV w tv (EndsP (.alt a b) s H) ∧ ∀ t, tv.ownBlock = some t → F t ∧ t ≠ g ∧ t ≠ k ∧ ¬ Fa t ∧ ¬ Fb t
  | .star a, H, w, g, F => F g ∧ (∀ x, F x → x < w.heap.size) ∧ ∃ tv k kc ga Fa, Nd w g 6 Ws.nil (.slice (some ⟨k, 0, none⟩) 1 kc) tv ∧ Ptrs w k [ga] ∧ F k ∧ k ≠ g ∧ PartAt s a (EndsP (.star a) s H) w ga Fa ∧
      (∀ x, Fa x → F x ∧ x ≠ g ∧ x ≠ k) ∧ ToldV w tv (EndsP (.star a) s H) ∧ ∀ t, tv.ownBlock = some t → F t ∧ t ≠ g ∧ t ≠ k ∧ ¬ Fa t
theorem PartAt.root {s : List UInt8} {e : Ex} {H : Nat → Prop} {w : World} {g : Nat} {F : Nat → Prop} (h : PartAt s e H w g F) : F g := by cases e <;> exact h.1
theorem PartAt.lt {s : List UInt8} {e : Ex} {H : Nat → Prop} {w : World} {g : Nat} {F : Nat → Prop} (h : PartAt s e H w g F) : ∀ x, F x → x < w.heap.size := by cases e <;> exact h.2.1
set_option linter.unusedVariables false in
theorem PartAt.go {s : List UInt8} : ∀ (e : Ex) {H : Nat → Prop} {w w' : World} {g : Nat} {F : Nat → Prop}, PartAt s e H w g F → w.heap.size ≤ w'.heap.size → (∀ x, F x → w'.heap[x]? = w.heap[x]?) → PartAt s e H w' g F
  | .empty, H, w, w', g, F, ⟨h1, h2, kv, tv, h3⟩, hs, hk => ⟨h1, fun x hx => Nat.lt_of_lt_of_le (h2 x hx) hs, kv, tv, h3.go (hk g h1)⟩
  | .eps, H, w, w', g, F, ⟨h1, h2, kv, tv, h3⟩, hs, hk => ⟨h1, fun x hx => Nat.lt_of_lt_of_le (h2 x hx) hs, kv, tv, h3.go (hk g h1)⟩
  | .cls t, H, w, w', g, F, ⟨h1, h2, kv, tv, h3⟩, hs, hk => ⟨h1, fun x hx => Nat.lt_of_lt_of_le (h2 x hx) hs, kv, tv, h3.go (hk g h1)⟩
  | .seq a b, H, w, w', g, F, ⟨h1, h2, tv, k, kc, ga, gb, Fa, Fb, h3, h4, h5, h6, h7, h8, h9, h10⟩, hs, hk =>
    ⟨h1, fun x hx => Nat.lt_of_lt_of_le (h2 x hx) hs, tv, k, kc, ga, gb, Fa, Fb, h3.go (hk g h1), h4.go (hk k h5), h5, h6, h7.go a hs (fun x hx => hk x (h9 x hx).1), h8.go b hs (fun x hx => hk x (h10 x hx).1), h9, h10⟩
  | .alt a b, H, w, w', g, F, ⟨h1, h2, tv, k, kc, ga, gb, Fa, Fb, h3, h4, h5, h6, h7, h8, h9, h10, h11, h12⟩, hs, hk =>
    ⟨h1, fun x hx => Nat.lt_of_lt_of_le (h2 x hx) hs, tv, k, kc, ga, gb, Fa, Fb, h3.go (hk g h1), h4.go (hk k h5), h5, h6, h7.go a hs (fun x hx => hk x (h9 x hx).1), h8.go b hs (fun x hx => hk x (h10 x hx).1), h9, h10, h11.go (fun t ht => hk t (h12 t ht).1), h12⟩
  | .star a, H, w, w', g, F, ⟨h1, h2, tv, k, kc, ga, Fa, h3, h4, h5, h6, h7, h9, h11, h12⟩, hs, hk =>
    ⟨h1, fun x hx => Nat.lt_of_lt_of_le (h2 x hx) hs, tv, k, kc, ga, Fa, h3.go (hk g h1), h4.go (hk k h5), h5, h6, h7.go a hs (fun x hx => hk x (h9 x hx).1), h9, h11.go (fun t ht => hk t (h12 t ht).1), h12⟩
theorem PartAt.fm {s : List UInt8} {e : Ex} {H : Nat → Prop} {w w' : World} {g : Nat} {F X : Nat → Prop} (h : PartAt s e H w g F) (hf : Fm X w w') (hX : ∀ x, F x → ¬ X x) : PartAt s e H w' g F := h.go e hf.size fun x hx => hf.block x (h.lt x hx) (hX x hx)
theorem PartAt.below {s : List UInt8} {e : Ex} {H : Nat → Prop} {w w' : World} {g : Nat} {F : Nat → Prop} (h : PartAt s e H w g F) (hf : Below w.heap.size w w') : PartAt s e H w' g F := h.go e hf.size fun x hx => hf.block x (h.lt x hx)
def EndsPostP (s : List UInt8) (e : Ex) (H : Nat → Prop) (l : List Nat) (v : Value) (g : Nat) (F : Nat → Prop) (w : World) (x : Ending) (w' : World) : Prop :=
  ∃ v' l' F', x = .returned v' ∧ OwnI w' v' l' ∧ (∀ f, v'.ownBlock = some f → ¬ F' f ∧ (v.ownBlock = some f ∨ w.heap.size ≤ f)) ∧ Tld e s H l l' ∧ PartAt s e (Also H l) w' g F' ∧ (∀ x, F' x → F x ∨ w.heap.size ≤ x) ∧ Fm (fun x => F x ∨ v.ownBlock = some x) w w'
def EndsK (s : ByteArray) (e : Ex) : Prop := ∀ (H : Nat → Prop) (l : List Nat) (w : World) (g : Nat) (F : Nat → Prop) (v : Value), PartAt s.data.toList e H w g F → OwnI w v l → (∀ f, v.ownBlock = some f → ¬ F f) → Ask s.data.toList H l →
  Calls Tryz.prog 21 #[.pointer (some ⟨g, 0, none⟩), .string s, v] w (EndsPostP s.data.toList e H l v g F w)
open Go.RowKit
set_option maxHeartbeats 1000000 in
theorem mhas_any (tv : Value) (T : Nat → Prop) (i : Nat) (w : World) (hi : i < 64) (h : ToldV w tv T) :
    Calls Tryz.prog 31 #[tv, .int .i64 i] w fun e w' => ∃ b, e = .returned (.bool b) ∧ (b = true ↔ T i) ∧ Below w.heap.size w w' := by
  have k1 : (i : Int) / 64 = 0 := by omega
  have k2 : (i : Int) % 64 = (i : Int) := by omega
  rcases h with ⟨rfl, hT⟩ | ⟨t, cap, cur, m, rfl, hg, hcs, hcm, hc1, hc0, hm, hT⟩
  · have HT := Lib.hid (hT i)
    clear hT
    go_enter Tryz.func31, Tryz.ntmps31
    go_wp2
    go_ret
    exact ⟨_, rfl, ⟨fun h => (by cases h), fun h => absurd h HT.out⟩, Below.refl _ _⟩
  · have HT := Lib.hid (hT i)
    have e0 := Lib.hid (and_one m i hm)
    have c0 : w.cell? ⟨t, 0, none⟩ = some (.int .u64 (m : Nat)) := by rw [Lib.cell_of_heap hg]; exact hc0
    clear hT hg hcs hcm hc1 hc0
    go_enter Tryz.func31, Tryz.ntmps31
    go_wp2
    go_ret
    refine ⟨_, rfl, ?_, Below.refl _ _⟩
    rw [HT.out]
    simp [e0.out]
def tldInv (w : World) (g o : Nat) (ty : TypeId) (cur : Array Value) (tv : Value) (T : Nat → Prop) (wr : World) : Prop :=
  ∃ tv', wr.heap[g]? = some (.cells (cur.setIfInBounds o tv') ty) ∧ ToldV wr tv' T ∧ (tv'.ownBlock = tv.ownBlock ∨ ∃ t, tv'.ownBlock = some t ∧ w.heap.size ≤ t) ∧ Fm (fun x => x = g ∨ tv.ownBlock = some x) w wr
theorem tldInv.drew {w w' : World} {g o : Nat} {ty : TypeId} {cur : Array Value} {tv : Value} {T : Nat → Prop} (h : tldInv w g o ty cur tv T w') : tldInv w g o ty cur tv T w'.drew := by
  obtain ⟨tv', h1, h2, h3, h4⟩ := h
  exact ⟨tv', h1, h2.go fun _ _ => rfl, h3, h4.trans (Fm.drew _)⟩
def isNil (g o : Nat) (w : World) : Nat := match w.cell? ⟨g, o, none⟩ with
  | some (.slice none _ _) => 1
  | _ => 0
theorem testBit_or (m i j : Nat) : (m ||| 2 ^ i).testBit j = true ↔ m.testBit j = true ∨ j = i := by
  rw [Nat.testBit_or, Nat.testBit_two_pow, Bool.or_eq_true, decide_eq_true_eq]
  exact ⟨fun h => h.imp id Eq.symm, fun h => h.imp id Eq.symm⟩
set_option maxRecDepth 100000 in
theorem infoU : (Tryz.prog.info? 22).map (fun i => (i.zero, i.size, i.bytes)) = some (some (.int .u64 0), 1, 8) := by kernel_rfl
theorem told_own {w : World} {v : Value} (h : w.ownsRow 0 22 1 v 1 [.int .u64 0]) (T : Nat → Prop) (hT : ∀ i, ¬ T i) : ToldV w v T := by
  rcases h.2 with ⟨_, h2⟩ | ⟨g, cap, cur, rfl, _, hg, h1, h2, h3, h4⟩
  · cases h2
  · refine .inr ⟨g, cap, cur, 0, rfl, hg, by simpa using h3, h2, h1, ?_, by decide, fun i => ⟨fun h => absurd h (hT i), fun h => by simp at h⟩⟩
    have : (cur.toList.take (1 * 1))[0]? = some (Value.int .u64 0) := by rw [h4]; rfl
    rw [List.getElem?_take, if_pos (by decide)] at this
    simpa using this
set_option maxRecDepth 100000 in
set_option maxHeartbeats 4000000 in
theorem mput_any (tv : Value) (T : Nat → Prop) (g o : Nat) (ty : TypeId) (cur : Array Value) (i : Nat) (w : World) (hi : i < 64) (hg : w.heap[g]? = some (.cells cur ty)) (ho : cur[o]? = some tv) (h : ToldV w tv T) (hgt : tv.ownBlock ≠ some g) :
    Calls Tryz.prog 30 #[.pointer (some ⟨g, o, none⟩), .int .i64 i] w fun e w' => e = .returned (.tuple #[]) ∧ tldInv w g o ty cur tv (Also T [i]) w' := by
  have k1 : (i : Int) / 64 = 0 := by omega
  have k2 : (i : Int) % 64 = (i : Int) := by omega
  have hos : o < cur.size := (Array.getElem?_eq_some_iff.1 ho).1
  have hgl : g < w.heap.size := (Array.getElem?_eq_some_iff.1 hg).1
  have hst : tldInv w g o ty cur tv T w := ⟨tv, by rw [hg]; congr 2; apply Array.ext_getElem?; intro j; rw [Array.getElem?_setIfInBounds]; split <;> simp_all, h, .inl rfl, Fm.refl _ _⟩
  have HST := Lib.hid hst
  have HGT := Lib.hid hgt
  clear h hst hg ho hgt
  go_enter Tryz.func30, Tryz.ntmps30
  go_wp2_with fail
  go_loopw [] (fun wr => tldInv w g o ty cur tv T wr) (fun wr => isNil g o wr)
  case atStart => exact HST.out
  case round =>
    obtain ⟨tv', h1, h2, h3, h4⟩ := hrel
    have c0 : wr.cell? ⟨g, o, none⟩ = some tv' := by rw [Lib.cell_of_heap h1]; simp [hos]
    have f0 : wr.frozen? ⟨g, o, none⟩ = false := Lib.frozen_of_heap h1 o
    have hgl' : g < wr.heap.size := Nat.lt_of_lt_of_le hgl h4.size
    rcases id h2 with ⟨rfl, hT⟩ | ⟨t, cap, tc, m, rfl, ht, hcs, hcm, hc1, hc0, hm, hT⟩
    · obtain ⟨i0, hi0, hz0, hz1, hz2⟩ := info_parts infoU
      have hz2' := Lib.hid hz2
      have H1 := Lib.hid h1
      have H3 := Lib.hid h3
      have H4 := Lib.hid h4
      have HT := Lib.hid hT
      clear h1 h2 h3 h4 hT hz2 HST
      go_wp2_with (at_builtin; refine wpList_append_at rfl _ _ 70 rfl 0 22 i0 (.int .u64 0) 1 8 Tryz.underlying70 hi0 hz0 hz1 hz2'.out rfl (by decide) (.slice none 0 0) 0 [] rfl ⟨rfl, .inl ⟨rfl, rfl⟩⟩ ⟨wr.heap.size, 0, none⟩ 1 1 [.int .u64 0] rfl rfl ?c1 ?c2 ?c3 ?c4 ?c5 (by decide) ?_)
      case c1 =>
        intro j u hu
        match j, hu with
        | 0, hu => simp at hu; subst hu; rw [Go.WideShapes.add_plain, Lib.cell_of_heap (blk_new wr _)]; rfl
      case c2 => intro u hu; simp at hu; subst hu; rfl
      case c3 => unfold maxLen; omega
      case c4 => omega
      case c5 => exact Nat.zero_le _
      intro v1 w1 g1 g2 g3
      have hF : Fm (fun x => x = g ∨ tv.ownBlock = some x) wr w1 := (Fm.alloc wr _).trans (Fm.grown g2 fun x hx => by cases hx)
      have e1 : w1.heap[g]? = wr.heap[g]? := (g2.block g (by simp; omega) (by simp [Value.ownBlock])).trans (Below.heap_alloc _ _ _ hgl')
      have hv1 : ∃ t, v1.ownBlock = some t ∧ wr.heap.size ≤ t := by
        rcases g1.2 with ⟨_, h⟩ | ⟨t, _, _, rfl, _⟩
        · cases h
        · rcases g3 with g3 | g3
          · cases g3
          · exact ⟨_, rfl, by injection g3 with g3; rw [g3]; simp⟩
      have hT1 : ToldV w1 v1 T := told_own (by simpa using g1) T HT.out
      have hg1 : w1.heap[g]? = some (.cells (cur.setIfInBounds o (.slice none 0 0)) ty) := e1.trans H1.out
      have c1 : w1.cell? ⟨g, o, none⟩ = some (.slice none 0 0) := by rw [Lib.cell_of_heap hg1]; simp [hos]
      have f1 : w1.frozen? ⟨g, o, none⟩ = false := Lib.frozen_of_heap hg1 o
      have hend : tldInv w g o ty cur tv T (w1.setCell ⟨g, o, none⟩ v1) := by
        obtain ⟨t, ht1, ht2⟩ := hv1
        refine ⟨v1, ?_, hT1.go fun x hx => Below.heap_setCell _ _ _ _ ?_, .inr ⟨t, ht1, Nat.le_trans H4.out.size ht2⟩, (H4.out.trans hF).trans (Fm.set _ _ (.inl rfl))⟩
        · simp [World.setCell, Array.getElem?_modify, hg1]
        · rw [ht1] at hx
          injection hx with hx
          show x ≠ g
          omega
      have hdec : isNil g o (w1.setCell ⟨g, o, none⟩ v1) < isNil g o wr := by
        have a1 : (w1.setCell ⟨g, o, none⟩ v1).cell? ⟨g, o, none⟩ = some v1 := by
          have hh : (w1.setCell ⟨g, o, none⟩ v1).heap[g]? = some (.cells (cur.setIfInBounds o v1) ty) := by simp [World.setCell, Array.getElem?_modify, hg1]
          rw [Lib.cell_of_heap hh]
          simp [hos]
        obtain ⟨t, ht1, _⟩ := hv1
        rcases g1.2 with ⟨_, h⟩ | ⟨t, _, _, rfl, _⟩
        · cases h
        · unfold isNil
          rw [a1, c0]
          exact Nat.zero_lt_one
      obtain ⟨t1, cap1, rfl⟩ : ∃ t1 cap1, v1 = .slice (some ⟨t1, 0, none⟩) 1 cap1 := by
        rcases g1.2 with ⟨_, h⟩ | ⟨t, cap, _, h, _⟩
        · cases h
        · exact ⟨t, cap, h⟩
      have HEND := Lib.hid hend
      have HDEC := Lib.hid hdec
      clear g1 g2 g3 hF e1 hv1 hT1 hend hdec hg1
      go_wp2
      exact ⟨HEND.out, HDEC.out⟩
    · have hht : t ≠ g := by
        intro e
        subst e
        rcases h3 with h | ⟨t', h, h'⟩
        · exact HGT.out h.symm
        · have h : t = t' := by simpa [Value.ownBlock] using h
          omega
      have d0 : wr.cell? ⟨t, 0, none⟩ = some (.int .u64 (m : Nat)) := by rw [Lib.cell_of_heap ht]; exact hc0
      have d1 : wr.frozen? ⟨t, 0, none⟩ = false := Lib.frozen_of_heap ht 0
      have htl : t < wr.heap.size := (Array.getElem?_eq_some_iff.1 ht).1
      have e0 := or_bit m i hm
      rw [show i % 64 = i from by omega] at e0
      have E0 := Lib.hid e0
      have hend : tldInv w g o ty cur tv (Also T [i]) (wr.setCell ⟨t, 0, none⟩ (.int .u64 ((m ||| 2 ^ i : Nat) : Int))) := by
        have hX : (fun x => x = g ∨ tv.ownBlock = some x) t ∨ w.heap.size ≤ t := by
          rcases h3 with h | ⟨t', h, h'⟩
          · exact .inl (.inr h.symm)
          · have h : t = t' := by simpa [Value.ownBlock] using h
            exact .inr (by omega)
        refine ⟨.slice (some ⟨t, 0, none⟩) 1 cap, (Below.heap_setCell _ _ _ _ (Ne.symm hht)).trans h1, .inr ⟨t, cap, tc.setIfInBounds 0 (.int .u64 ((m ||| 2 ^ i : Nat) : Int)), m ||| 2 ^ i, rfl, ?_, by simpa using hcs, hcm, hc1, ?_, ?_, fun j => ?_⟩, h3, ?_⟩
        · simp [World.setCell, Array.getElem?_modify, ht]
        · have : 0 < tc.size := by omega
          simp [this]
        · exact Nat.or_lt_two_pow (n := 64) hm (Nat.pow_lt_pow_right (by decide) hi)
        · rw [testBit_or]
          unfold Also
          rw [hT j]
          simp
        · rcases hX with hX | hX
          · exact h4.trans (Fm.set _ _ hX)
          · exact ⟨h4.os, h4.tape, h4.output, by simpa [World.setCell] using h4.size, fun x hx hn => (Below.heap_setCell _ _ _ _ (by show x ≠ t; omega)).trans (h4.block x hx hn)⟩
      have HEND := Lib.hid hend
      clear hend h1 h2 h3 h4 hT ht hcs hcm hc1 hc0 hht e0 HST HGT
      go_wp2_with fail
      go_region
      go_wp2
      rw [E0.out]
      exact ⟨rfl, .tuple #[], by simp [results, Tryz.results30, go_sem], rfl, HEND.out.drew⟩
open Go.RowKit
set_option maxRecDepth 100000 in
theorem infoI10 : (Tryz.prog.info? 3).map (fun i => (i.zero, i.size, i.bytes)) = some (some (.int .i64 0), 1, 8) := by kernel_rfl
theorem row_put (cur : Array Value) (n : Nat) (u : Value) (h : n < cur.size) : (cur.toList.take (n * 1) ++ [u] ++ cur.toList.drop (n * 1 + 1)).toArray = cur.setIfInBounds n u := by
  apply Array.ext'
  rw [Array.toList_setIfInBounds, Nat.mul_one, List.set_eq_take_append_cons_drop, if_pos (by simpa using h)]
  simp
theorem wpList_append_in {P : Program} {w : World} {ops : Array Oper} {rest : List Oper} {o : Oper} {a : Act} {Q : Exit → Act → World → Prop} (hgd : o.guard = none) (s x : Operand) (t : TypeId)
    (ho : o.op = .call { callee := .builtin .append, args := #[s, x], argTypes := #[t, t] }) (e : TypeId) (i : TypeInfo) (ht : P.underlying t = some (.slice e)) (hi : P.info? e = some i) (hsize : i.size = 1)
    (g n cap : Nat) (cur : Array Value) (hs : a.eval s = .slice (some ⟨g, 0, none⟩) n cap) (hg : w.heap[g]? = some (.cells cur e)) (b c : Nat) (u : Value) (hx : a.eval x = .slice (some ⟨b, 0, none⟩) 1 c) (hu : w.cell? ⟨b, 0, none⟩ = some u) (h1 : u.oneCell' = true)
    (hroom : n + 1 ≤ cap) (hcs : cur.size = cap) (h : wpList P ops Q rest (a.put o.dst (.slice (some ⟨g, 0, none⟩) (n + 1) cap)) (w.setRow g (cur.setIfInBounds n u))) : wpList P ops Q (o :: rest) a w := by
  refine wpList_plain hgd fun _ hK => ?_
  have hr := run_append_room (P := P) w t o.type e i ht hi g n cap cur hg ⟨b, 0, none⟩ 1 c [u] (by rw [hsize]; rfl) (fun j v hv => by
    match j, hv with
    | 0, hv => simp at hv; subst hv; rw [Go.WideShapes.add_plain]; exact hu) (fun v hv => by simp at hv; subst hv; exact h1) hroom (by rw [hsize, hcs]; simpa using hroom)
  rw [hsize] at hr
  rw [show ([u] : List Value).length = 1 from rfl, row_put cur n u (by omega)] at hr
  unfold Oper.wp execOp
  simp only [ho, resolve, invoke, builtin, Sem.run_bind, Sem.run_pure, Result.andThen_ok, List.map_toArray, List.map_cons, List.map_nil, hs, hx, hr]
  exact hK _ _ h
def InRow (w : World) (f cap : Nat) (l done : List Nat) (i : Nat) (fc : Array Value) : Prop :=
  done.length ≤ i ∧ w.heap[f]? = some (.cells fc 3) ∧ fc.size = cap ∧ fc.toList.take done.length = intsL done ∧ ∀ j, i ≤ j → ∀ h : j < l.length, fc[j]? = some (.int .i64 (l[j] : Nat))
theorem InRow.start {w : World} {f cap n : Nat} {l : List Nat} (h : OwnI w (.slice (some ⟨f, 0, none⟩) n cap) l) : l.length ≤ cap ∧ cap ≤ maxLen ∧ n = l.length ∧ ∃ fc, InRow w f cap l [] 0 fc := by
  rcases h.form with ⟨h1, _⟩ | ⟨f', cap', cur, h1, h2, h3, h4, h5, h6⟩
  · cases h1
  · simp at h1
    obtain ⟨rfl, rfl, rfl⟩ := h1
    refine ⟨h3, h4, rfl, cur, Nat.le_refl _, h2, h5, rfl, fun j _ hj => ?_⟩
    have : (cur.toList.take l.length)[j]? = some (Value.int .i64 (l[j] : Nat)) := by rw [h6]; simp [intsL, hj]
    rw [List.getElem?_take, if_pos hj] at this
    simpa using this
theorem InRow.go {w w' : World} {f cap i : Nat} {l done : List Nat} {fc : Array Value} (h : InRow w f cap l done i fc) (hk : w'.heap[f]? = w.heap[f]?) : InRow w' f cap l done i fc := ⟨h.1, hk.trans h.2.1, h.2.2⟩
theorem InRow.cell {w : World} {f cap i : Nat} {l done : List Nat} {fc : Array Value} (h : InRow w f cap l done i fc) (hi : i < l.length) : w.cell? ⟨f, i, none⟩ = some (.int .i64 (l[i] : Nat)) := by
  rw [Lib.cell_of_heap h.2.1]
  exact h.2.2.2.2 i (Nat.le_refl _) hi
theorem InRow.skip {w : World} {f cap i : Nat} {l done : List Nat} {fc : Array Value} (h : InRow w f cap l done i fc) : InRow w f cap l done (i + 1) fc := ⟨by have := h.1; omega, h.2.1, h.2.2.1, h.2.2.2.1, fun j hj => h.2.2.2.2 j (by omega)⟩
theorem InRow.put {w : World} {f cap i : Nat} {l done : List Nat} {fc : Array Value} (h : InRow w f cap l done i fc) (hi : i < l.length) (hl : l.length ≤ cap) (x : Nat) : InRow (w.setRow f (fc.setIfInBounds done.length (.int .i64 (x : Nat)))) f cap l (done ++ [x]) (i + 1) (fc.setIfInBounds done.length (.int .i64 (x : Nat))) := by
  obtain ⟨h1, h2, h3, h4, h5⟩ := h
  have hd : done.length < fc.size := by omega
  refine ⟨by rw [List.length_append]; simp; omega, setRow_heap w f fc _ _ _ h2, by simpa using h3, ?_, fun j hj hl' => ?_⟩
  · rw [List.length_append, intsL_app, ← h4, Array.toList_setIfInBounds, show [x].length = 1 from rfl, List.take_add_one]
    rw [List.take_set, List.getElem?_set]
    simp [hd, intsL]
    rw [List.set_eq_of_length_le (by simp; omega)]
  · rw [Array.getElem?_setIfInBounds_ne (by omega)]
    exact h5 j (by omega) hl'
theorem InRow.own {w : World} {f cap i : Nat} {l done : List Nat} {fc : Array Value} (h : InRow w f cap l done i fc) (hi : i ≤ l.length) (hl : l.length ≤ cap) (hm : cap ≤ maxLen) : OwnI w (.slice (some ⟨f, 0, none⟩) done.length cap) done := OwnI.of h.2.1 (by have := h.1; omega) hm h.2.2.1 h.2.2.2.1
theorem newL_snoc (T : Nat → Prop) (l : List Nat) (x : Nat) (h : ¬ T x) : newL T (l ++ [x]) = newL T l ++ [x] := by simp [newL, List.filter_append, h]
theorem newL_snoc' (T : Nat → Prop) (l : List Nat) (x : Nat) (h : T x) : newL T (l ++ [x]) = newL T l := by simp [newL, List.filter_append, h]
def addInv (w : World) (g o : Nat) (ty : TypeId) (cur : Array Value) (tv : Value) (T : Nat → Prop) (l : List Nat) (f cap : Nat) (y5 y12 : Value) (wr : World) : Prop :=
  ∃ i : Nat, i ≤ l.length ∧ y12 = .int .i64 i ∧ y5 = .slice (some ⟨f, 0, none⟩) (newL T (l.take i)).length cap ∧ (∃ fc, InRow wr f cap l (newL T (l.take i)) i fc) ∧
  ∃ tv', wr.heap[g]? = some (.cells (cur.setIfInBounds o tv') ty) ∧ ToldV wr tv' (Also T (l.take i)) ∧ (tv'.ownBlock = tv.ownBlock ∨ ∃ t, tv'.ownBlock = some t ∧ w.heap.size ≤ t) ∧ Fm (fun x => x = g ∨ x = f ∨ tv.ownBlock = some x) w wr
def AddPost (w : World) (g o : Nat) (ty : TypeId) (cur : Array Value) (tv : Value) (T : Nat → Prop) (l : List Nat) (v : Value) (e : Ending) (w' : World) : Prop :=
  ∃ v', e = .returned v' ∧ OwnI w' v' (newL T l) ∧ v'.ownBlock = v.ownBlock ∧
  ∃ tv', w'.heap[g]? = some (.cells (cur.setIfInBounds o tv') ty) ∧ ToldV w' tv' (Also T l) ∧ (tv'.ownBlock = tv.ownBlock ∨ ∃ t, tv'.ownBlock = some t ∧ w.heap.size ≤ t) ∧ Fm (fun x => x = g ∨ v.ownBlock = some x ∨ tv.ownBlock = some x) w w'
theorem set_same (cur : Array Value) (o : Nat) (tv : Value) (ho : cur[o]? = some tv) : cur.setIfInBounds o tv = cur := by
  apply Array.ext_getElem?
  intro j
  rw [Array.getElem?_setIfInBounds]
  split
  · next h => subst h; rw [if_pos (Array.getElem?_eq_some_iff.1 ho).1]; exact ho.symm
  · rfl
set_option maxRecDepth 100000 in
set_option maxHeartbeats 4000000 in
theorem madd_any (tv : Value) (T : Nat → Prop) (g o : Nat) (ty : TypeId) (cur : Array Value) (v : Value) (l : List Nat) (w : World) (hl : ∀ x ∈ l, x < 64) (hn : l.Nodup) (hg : w.heap[g]? = some (.cells cur ty)) (ho : cur[o]? = some tv) (h : ToldV w tv T) (hgt : tv.ownBlock ≠ some g)
    (hv : OwnI w v l) (hvg : v.ownBlock ≠ some g) (hvt : ∀ t, tv.ownBlock = some t → v.ownBlock ≠ some t) :
    Calls Tryz.prog 59 #[.pointer (some ⟨g, o, none⟩), v] w (AddPost w g o ty cur tv T l v) := by
  have hos : o < cur.size := (Array.getElem?_eq_some_iff.1 ho).1
  have hgl : g < w.heap.size := (Array.getElem?_eq_some_iff.1 hg).1
  rcases hv.form with ⟨rfl, rfl⟩ | ⟨f, cap, fc, rfl, hfr, hlc, hcm, -, -⟩
  · have hst : AddPost w g o ty cur tv T [] (.slice none 0 0) (.returned (.slice none 0 0)) w := ⟨_, rfl, OwnI.nil w, rfl, tv, by rw [set_same cur o tv ho]; exact hg, by rw [also_nil]; exact h, .inl rfl, Fm.refl _ _⟩
    have HST := Lib.hid hst
    clear hst h hgt hvt hvg hv hg ho hl hn
    go_enter Tryz.func59, Tryz.ntmps59
    go_wp2_with fail
    go_loopw [5, 12] (fun y5 y12 wr => y5 = .slice none 0 0 ∧ y12 = .int .i64 0 ∧ wr = w) (fun _ _ _ => 0)
    case atStart => exact ⟨rfl, rfl, rfl⟩
    case round =>
      obtain ⟨rfl, rfl, rfl⟩ := hrel
      go_wp2
      go_ret
      exact HST.out
  · obtain ⟨-, -, -, fc0, hR0⟩ := InRow.start hv
    have hfg : f ≠ g := fun e => hvg (by rw [e]; rfl)
    have hst : addInv w g o ty cur tv T l f cap (.slice (some ⟨f, 0, none⟩) 0 cap) (.int .i64 0) w := ⟨0, Nat.zero_le _, rfl, rfl, ⟨fc0, hR0⟩, tv, by rw [set_same cur o tv ho]; exact hg, by rw [List.take_zero, also_nil]; exact h, .inl rfl, Fm.refl _ _⟩
    have HST := Lib.hid hst
    have HL := Lib.hid hl
    have HN := Lib.hid hn
    have HVT := Lib.hid fun (t : Nat) (ht : tv.ownBlock = some t) => show t ≠ f from fun e => hvt t ht (by rw [e]; rfl)
    have HGT := Lib.hid hgt
    have HFL := Lib.hid (hv.lt (f := f) rfl)
    have HLC := Lib.hid hlc
    have HCM := Lib.hid hcm
    clear hst h hgt hvt hvg hv hg ho hl hn hR0 fc0 hfr fc hlc hcm
    go_enter Tryz.func59, Tryz.ntmps59
    go_wp2_with fail
    go_loopw [5, 12] (fun y5 y12 wr => addInv w g o ty cur tv T l f cap y5 y12 wr) (fun _ y12 _ => l.length - (intOf y12).toNat)
    case atStart => exact HST.out
    case round =>
      clear HST
      obtain ⟨i, hi, rfl, rfl, ⟨fc, hR⟩, tv', h1, h2, h3, h4⟩ := hrel
      have H1 := Lib.hid h1
      have H2 := Lib.hid h2
      have H3 := Lib.hid h3
      have H4 := Lib.hid h4
      have HR := Lib.hid hR
      by_cases hlt : i < l.length
      · have q1 : (i : Int) < (l.length : Int) := by omega
        have c1 := hR.cell hlt
        have c0 : wr.cell? ⟨g, o, none⟩ = some tv' := by rw [Lib.cell_of_heap h1]; simp [hos]
        have hx64 := HL.out l[i] (List.getElem_mem hlt)
        obtain ⟨x, hx⟩ : ∃ x, x = l[i] := ⟨_, rfl⟩
        rw [← hx] at c1 hx64
        have KH := Lib.hid (mhas_any tv' _ x wr hx64 h2)
        have HX := Lib.hid hx
        have hw64 : wrap64 ((i : Int) + 1) = (i : Int) + 1 := by have := HLC.out; have := HCM.out; unfold maxLen at this; unfold wrap64; omega
        have HW := Lib.hid hw64
        clear hw64
        have htk : l.take (i + 1) = l.take i ++ [x] := by rw [hx, List.take_succ_eq_append_getElem hlt]
        have HTK := Lib.hid htk
        have hxn : ¬ x ∈ l.take i := by
          intro hm
          have := HN.out.sublist (List.take_sublist (i + 1) l)
          rw [htk, List.nodup_append] at this
          exact this.2.2 x hm x (by simp) rfl
        have HXN := Lib.hid hxn
        obtain ⟨tp, tn, tc, rfl⟩ : ∃ a n c, tv' = .slice a n c := by
          rcases h2 with ⟨rfl, _⟩ | ⟨t, cap, _, m, rfl, _⟩
          · exact ⟨_, _, _, rfl⟩
          · exact ⟨_, _, _, rfl⟩
        clear h1 h2 h3 h4 hR hx htk hxn
        go_wp2_with fail
        refine KH.out.mono ?_
        rintro e w1 ⟨b, rfl, hb, hbel⟩
        cases b with
        | true =>
          have hT : T x := ((hb.1 rfl).resolve_right HXN.out)
          have e1 : newL T (l.take (i + 1)) = newL T (l.take i) := by rw [HTK.out]; exact newL_snoc' T _ x hT
          have e2 : Also T (l.take (i + 1)) = Also T (l.take i) := by
            rw [HTK.out]
            funext j
            apply propext
            unfold Also
            rw [List.mem_append]
            constructor
            · rintro (h | h | h)
              · exact .inl h
              · exact .inr h
              · simp at h; exact .inl (by rw [h]; exact hT)
            · exact fun h => h.imp id .inl
          have hend : addInv w g o ty cur tv T l f cap (.slice (some ⟨f, 0, none⟩) (newL T (l.take i)).length cap) (.int .i64 ((i : Int) + 1)) w1 := by
            refine ⟨i + 1, hlt, by simp, by rw [e1], ⟨fc, by rw [e1]; exact (HR.out.go (hbel.block f (Nat.lt_of_lt_of_le HFL.out H4.out.size))).skip⟩, _, (hbel.block g (Nat.lt_of_lt_of_le hgl H4.out.size)).trans H1.out, by rw [e2]; exact H2.out.go fun t ht => hbel.block t (H2.out.lt ht), H3.out, H4.out.trans (Fm.below hbel)⟩
          have HEND := Lib.hid hend
          clear hb hbel hT e1 e2 hend
          go_wp2
          rw [HW.out]
          exact ⟨HEND.out, by simp [intOf]; omega⟩
        | false =>
          have hT : ¬ (Also T (l.take i)) x := fun h => by have := hb.2 h; cases this
          have hT0 : ¬ T x := fun h => hT (.inl h)
          have e1 : newL T (l.take (i + 1)) = newL T (l.take i) ++ [x] := by rw [HTK.out]; exact newL_snoc T _ x hT0
          have e2 : Also T (l.take (i + 1)) = Also (Also T (l.take i)) [x] := by rw [HTK.out, also_also]
          obtain ⟨tv', htv⟩ : ∃ t, t = Value.slice tp tn tc := ⟨_, rfl⟩
          have hg1 : w1.heap[g]? = some (.cells (cur.setIfInBounds o tv') ty) := by rw [htv]; exact (hbel.block g (Nat.lt_of_lt_of_le hgl H4.out.size)).trans H1.out
          have hgt' : tv'.ownBlock ≠ some g := by
            rw [htv]
            rcases H3.out with h | ⟨t, h, h'⟩
            · rw [h]; exact HGT.out
            · rw [h]; intro e; injection e with e; omega
          have ht1 : ToldV w1 tv' (Also T (l.take i)) := by rw [htv]; exact H2.out.go fun t ht => hbel.block t (H2.out.lt ht)
          have KP := Lib.hid (mput_any tv' _ g o ty (cur.setIfInBounds o tv') x w1 hx64 hg1 (by simp [hos]) ht1 hgt')
          have hF1 : Fm (fun x => x = g ∨ x = f ∨ tv.ownBlock = some x) w w1 := H4.out.trans (Fm.below hbel)
          have hR1 := HR.out.go (hbel.block f (Nat.lt_of_lt_of_le HFL.out H4.out.size))
          have hbk : tv'.ownBlock = tv.ownBlock ∨ ∃ t, tv'.ownBlock = some t ∧ w.heap.size ≤ t := by rw [htv]; exact H3.out
          have hft : tv'.ownBlock ≠ some f := by
            intro e
            rcases hbk with h | ⟨t, h, h'⟩
            · rw [h] at e; exact HVT.out f e rfl
            · rw [h] at e; injection e with e; have := HFL.out; omega
          have HE1 := Lib.hid e1
          have HE2 := Lib.hid e2
          have HF1 := Lib.hid hF1
          have HR1 := Lib.hid hR1
          have HBK := Lib.hid hbk
          have HFT := Lib.hid hft
          clear hb hbel hT hT0 e1 e2 hg1 hgt' ht1 hF1 hR1 hbk hft c0 c1 HR H1 H2 H3 H4
          clear htv
          go_wp2_with fail
          refine KP.out.mono ?_
          rintro e w2 ⟨rfl, tv2, a1, a2, a3, a4⟩
          have hR2 : InRow w2 f cap l (newL T (l.take i)) i fc := HR1.out.go (a4.block f (Nat.lt_of_lt_of_le HFL.out HF1.out.size) fun h => by
            rcases h with h | h
            · exact hfg h
            · exact HFT.out h)
          have hF2 : Fm (fun x => x = g ∨ x = f ∨ tv.ownBlock = some x) w w2 := HF1.out.then a4 fun y hy h => by
            rcases h with h | h
            · exact .inl h
            · rcases HBK.out with h2 | ⟨t, h2, h3⟩
              · exact .inr (.inr (by rw [← h2]; exact h))
              · rw [h2] at h; injection h with h; omega
          have hbk2 : tv2.ownBlock = tv.ownBlock ∨ ∃ t, tv2.ownBlock = some t ∧ w.heap.size ≤ t := by
            rcases a3 with h | ⟨t, h, h'⟩
            · rw [h]; exact HBK.out
            · exact .inr ⟨t, h, Nat.le_trans HF1.out.size h'⟩
          have hf2 : tv2.ownBlock ≠ some f := by
            intro e
            rcases a3 with h | ⟨t, h, h'⟩
            · rw [h] at e; exact HFT.out e
            · rw [h] at e; injection e with e; have := HFL.out; have := HF1.out.size; omega
          obtain ⟨i0, hi0, hz0, hz1, hz2⟩ := info_parts infoI10
          have hfl2 : f < w2.heap.size := Nat.lt_of_lt_of_le HFL.out hF2.size
          have hgl2 : g < w2.heap.size := Nat.lt_of_lt_of_le hgl hF2.size
          have hR3 : InRow (w2.alloc (.cells #[.int .i64 (x : Nat)] 3)) f cap l (newL T (l.take i)) i fc := hR2.go (Below.heap_alloc _ _ _ hfl2)
          have hroom : (newL T (l.take i)).length + 1 ≤ cap := by have := hR2.1; have := HLC.out; omega
          have hend : addInv w g o ty cur tv T l f cap (.slice (some ⟨f, 0, none⟩) ((newL T (l.take i)).length + 1) cap) (.int .i64 ((i : Int) + 1)) ((w2.alloc (.cells #[.int .i64 (x : Nat)] 3)).setRow f (fc.setIfInBounds (newL T (l.take i)).length (.int .i64 (x : Nat)))) := by
            have hso : ∀ b, b < w2.heap.size → b ≠ f → ((w2.alloc (.cells #[.int .i64 (x : Nat)] 3)).setRow f (fc.setIfInBounds (newL T (l.take i)).length (.int .i64 (x : Nat)))).heap[b]? = w2.heap[b]? := fun b hb hbf => (setRow_other _ f b _ hbf).trans (Below.heap_alloc _ _ _ hb)
            refine ⟨i + 1, hlt, by simp, by rw [HE1.out]; simp, ⟨_, by rw [HE1.out]; exact hR3.put hlt HLC.out x⟩, tv2, ?_, ?_, hbk2, hF2.trans ⟨rfl, rfl, rfl, by simp [World.setRow], fun b hb hn => hso b hb fun e => hn (.inr (.inl e))⟩⟩
            · rw [hso g hgl2 (Ne.symm hfg), a1]
              congr 2
              apply Array.ext_getElem?
              intro j
              simp only [Array.getElem?_setIfInBounds, Array.size_setIfInBounds]
              split <;> rfl
            · rw [HE2.out]
              exact a2.go fun t ht => hso t (a2.lt ht) fun e => hf2 (by rw [ht, e])
          have HEND := Lib.hid hend
          have HR3 := Lib.hid hR3
          clear a1 a2 a3 a4 hR2 hF2 hbk2 hf2 hend hz0 hz2 hR3
          go_wp2_with (at_builtin; refine wpList_append_in rfl _ _ 35 rfl 3 i0 Tryz.underlying35 hi0 hz1 f _ cap fc rfl HR3.out.2.1 w2.heap.size 1 (.int .i64 (x : Nat)) rfl ?c1 rfl hroom HR3.out.2.2.1 ?_)
          case c1 => rw [Lib.cell_of_heap (blk_new w2 _)]; rfl
          go_wp2
          rw [HW.out]
          exact ⟨HEND.out, by simp [intOf]; omega⟩
      · have q1 : ¬ (i : Int) < (l.length : Int) := by omega
        obtain rfl : i = l.length := by omega
        have hend : AddPost w g o ty cur tv T l (.slice (some ⟨f, 0, none⟩) l.length cap) (.returned (.slice (some ⟨f, 0, none⟩) (newL T (l.take l.length)).length cap)) wr := by
          have e1 : l.take l.length = l := List.take_length
          refine ⟨_, rfl, ?_, rfl, tv', h1, by rw [e1] at h2; exact h2, h3, h4.mono fun x _ hx => ?_⟩
          · have := hR.own (Nat.le_refl _) HLC.out HCM.out
            rw [e1] at this ⊢
            exact this
          · rcases hx with h | h | h
            · exact .inl h
            · exact .inr (.inl (by rw [h]; rfl))
            · exact .inr (.inr h)
        rw [List.take_length] at hend
        have HEND := Lib.hid hend
        clear h1 h2 h3 h4 hR hend
        go_wp2
        go_ret
        exact HEND.out
open Go.RowKit
theorem clsL_no {t : Ws} {s : List UInt8} (l : List Nat) (x : Nat) (h : ¬ clsP t s x = true) : clsL t s (l ++ [x]) = clsL t s l := by simp [clsL, List.filter_append, h]
theorem clsL_yes {t : Ws} {s : List UInt8} (l : List Nat) (x : Nat) (h : clsP t s x = true) : clsL t s (l ++ [x]) = clsL t s l ++ [x + 1] := by simp [clsL, List.filter_append, h]
def clsInvM (t : Ws) (s : ByteArray) (l : List Nat) (f cap : Nat) (w : World) (y7 y14 : Value) (wr : World) : Prop :=
  ∃ i : Nat, i ≤ l.length ∧ y14 = .int .i64 i ∧ y7 = .slice (some ⟨f, 0, none⟩) (clsL t s.data.toList (l.take i)).length cap ∧ (∃ fc, InRow wr f cap l (clsL t s.data.toList (l.take i)) i fc) ∧ Fm (fun x => x = f) w wr
set_option maxRecDepth 100000 in
set_option maxHeartbeats 4000000 in
theorem mclass_any (t : Ws) (s : ByteArray) (ht : t.Ok) (hs : s.size ≤ 60) (H : Nat → Prop) (l : List Nat) (w : World) (g : Nat) (F : Nat → Prop) (v : Value) (hp : PartAt s.data.toList (.cls t) H w g F) (hv : OwnI w v l) (hvF : ∀ f, v.ownBlock = some f → ¬ F f) (ha : Ask s.data.toList H l) (hne : l ≠ []) :
    Calls Tryz.prog 32 #[.pointer (some ⟨g, 0, none⟩), .string s, v] w (EndsPostP s.data.toList (.cls t) H l v g F w) := by
  rcases hv.form with ⟨_, h0⟩ | ⟨f, cap, fc, rfl, hfr, hlc, hcm, -, -⟩
  · exact absurd h0 hne
  · have hfF : ¬ F f := hvF f rfl
    have hgF := hp.root
    have hfg : f ≠ g := fun e => hfF (by rw [e]; exact hgF)
    obtain ⟨-, -, -, fc0, hR0⟩ := InRow.start hv
    have hfl : f < w.heap.size := hv.lt (f := f) rfl
    have hst : clsInvM t s l f cap w (.slice (some ⟨f, 0, none⟩) 0 cap) (.int .i64 0) w := ⟨0, Nat.zero_le _, rfl, rfl, ⟨fc0, hR0⟩, Fm.refl _ _⟩
    have HST := Lib.hid hst
    have HPP := Lib.hid hp
    have HAA := Lib.hid ha
    have HVF := Lib.hid hvF
    obtain ⟨-, -, kv, tv, sl, hg⟩ := hp
    have hgl : g < w.heap.size := (Array.getElem?_eq_some_iff.1 hg).1
    have HG := Lib.hid hg
    have HLC := Lib.hid hlc
    have HCM := Lib.hid hcm
    have HAL := Lib.hid fun (x : Nat) (hx : x ∈ l) => show x ≤ s.size from by have := (ha.2 x hx).1; rw [Array.length_toList] at this; exact this
    have HT := Lib.hid ht
    obtain ⟨sa, sb, sc, sd⟩ := t
    simp only at HG
    clear hst hvF hv ha hR0 fc0 hfr fc hlc hcm hne hg ht
    go_enter Tryz.func32, Tryz.ntmps32
    go_wp2_with fail
    go_loopw [7, 14] (fun y7 y14 wr => clsInvM ⟨sa, sb, sc, sd⟩ s l f cap w y7 y14 wr) (fun _ y14 _ => l.length - (intOf y14).toNat)
    case atStart => exact HST.out
    case round =>
      clear HST
      obtain ⟨i, hi, rfl, rfl, ⟨fc, hR⟩, h4⟩ := hrel
      have H4 := Lib.hid h4
      have HR := Lib.hid hR
      by_cases hlt : i < l.length
      · have q1 : (i : Int) < (l.length : Int) := by omega
        have c1 := hR.cell hlt
        have hxs := HAL.out l[i] (List.getElem_mem hlt)
        obtain ⟨x, hx⟩ : ∃ x, x = l[i] := ⟨_, rfl⟩
        rw [← hx] at c1 hxs
        have hw64 : wrap64 ((i : Int) + 1) = (i : Int) + 1 := by have := HLC.out; have := HCM.out; unfold maxLen at this; unfold wrap64; omega
        have HW := Lib.hid hw64
        have htk : l.take (i + 1) = l.take i ++ [x] := by rw [hx, List.take_succ_eq_append_getElem hlt]
        have HTK := Lib.hid htk
        obtain ⟨t, htt⟩ : ∃ t : Ws, t = ⟨sa, sb, sc, sd⟩ := ⟨_, rfl⟩
        have CX := Lib.hid fun W (hb : Below wr.heap.size wr W) => show W.cell? ⟨g, 1, none⟩ = some (.int .u64 sa) ∧ W.cell? ⟨g, 2, none⟩ = some (.int .u64 sb) ∧ W.cell? ⟨g, 3, none⟩ = some (.int .u64 sc) ∧ W.cell? ⟨g, 4, none⟩ = some (.int .u64 sd) from by
          have hh := (hb.block g (Nat.lt_of_lt_of_le hgl H4.out.size)).trans ((H4.out.block g hgl (Ne.symm hfg)).trans HG.out)
          refine ⟨?_, ?_, ?_, ?_⟩ <;> (rw [Lib.cell_of_heap hh]; rfl)
        rw [← htt] at HT HR ⊢
        clear hx hR h4 hw64 htk
        by_cases hxl : x < s.size
        · have hlt2 : (x : Int) < (s.size : Int) := by omega
          have HLT := Lib.hid hlt2
          obtain ⟨q, hq⟩ : ∃ q, q = t.has (s[x]'hxl).toNat := ⟨_, rfl⟩
          have KH := Lib.hid fun W => has_any t (s[x]'hxl).toNat W HT.out (s[x]'hxl).toNat_lt
          rw [← hq, htt] at KH
          have HQ := Lib.hid hq
          have hcl : clsP t s.data.toList x = q := by
            rw [Bool.eq_iff_iff, clsP_iff, hq]
            exact ⟨fun ⟨_, h⟩ => h, fun h => ⟨by rw [Array.length_toList]; exact hxl, h⟩⟩
          have HCL := Lib.hid hcl
          clear hq hcl htt hlt2
          go_wp2_with fail
          refine wp_region_order (fun j => ([SP.eq (.int .i64 (x : Nat)), SP.eq (.string s), SP.eq (.int .i64 s.size), SP.eq (.bool true), SP.eq (.bool true), SP.eq (.pointer (some ⟨g, 0, none⟩)), SP.eq (.pointer (some ⟨g, 0, none⟩)), SP.eq (.pointer (some ⟨g, 0, none⟩)), SP.eq (.pointer (some ⟨g, 1, none⟩)), SP.eq (.agg #[.int .u64 sa, .int .u64 sb, .int .u64 sc, .int .u64 sd]), SP.eq (.string s), SP.eq (.int .i64 (x : Nat)), SP.eq (.int .u8 (s[x]'hxl).toNat), SP.eq (.bool q), SP.eq (.bool q)] : List SP).getD j SP.free) (by kernel_rfl) (by kernel_rfl) ⟨?_, ?_, ?_, ?_, ?_, ?_, ?_, ?_, ?_, ?_, ?_, ?_, ?_, ?_, ?_, trivial⟩ ?_
          · intro a x1 K out get hb hK
            rw [if_pos (wanted_none rfl)]
            have o9 : a.tmps[9]? = some (.int .i64 (x : Nat)) := out 9 (by kernel_rfl)
            clear out get
            go_simp
            exact hK _ _ rfl (Below.refl _ _)
          · intro a x1 K out get hb hK
            rw [if_pos (wanted_none rfl)]
            have o1 : a.tmps[1]? = some (.string s) := out 1 (by kernel_rfl)
            clear out get
            go_simp
            exact hK _ _ rfl (Below.refl _ _)
          · intro a x1 K out get hb hK
            rw [if_pos (wanted_none rfl)]
            obtain ⟨y19, hy19, rfl⟩ := get 1 _ _ rfl rfl (by kernel_rfl)
            clear out get
            go_simp
            exact hK _ _ rfl (Below.refl _ _)
          · intro a x1 K out get hb hK
            rw [if_pos (wanted_none rfl)]
            obtain ⟨y18, hy18, rfl⟩ := get 0 _ _ rfl rfl (by kernel_rfl)
            obtain ⟨y20, hy20, rfl⟩ := get 2 _ _ rfl rfl (by kernel_rfl)
            clear out get
            have hlt := HLT.out
            go_simp
            exact hK _ _ rfl (Below.refl _ _)
          · intro a x1 K out get hb hK
            rw [if_pos (wanted_none rfl)]
            obtain ⟨y21, hy21, rfl⟩ := get 3 _ _ rfl rfl (by kernel_rfl)
            clear out get
            go_simp
            exact hK _ _ rfl (Below.refl _ _)
          · intro a x1 K out get hb hK
            obtain ⟨yg, hyg, rfl⟩ := get 4 _ _ rfl rfl (by kernel_rfl)
            rw [if_pos (by rw [wanted_bool rfl rfl rfl hyg]; rfl)]
            clear hyg
            have o0 : a.tmps[0]? = some (.pointer (some ⟨g, 0, none⟩)) := out 0 (by kernel_rfl)
            clear out get
            go_simp
            exact hK _ _ rfl (Below.refl _ _)
          · intro a x1 K out get hb hK
            obtain ⟨yg, hyg, rfl⟩ := get 4 _ _ rfl rfl (by kernel_rfl)
            rw [if_pos (by rw [wanted_bool rfl rfl rfl hyg]; rfl)]
            clear hyg
            obtain ⟨y23, hy23, rfl⟩ := get 5 _ _ rfl rfl (by kernel_rfl)
            clear out get
            go_simp
            exact hK _ _ rfl (Below.refl _ _)
          · intro a x1 K out get hb hK
            obtain ⟨yg, hyg, rfl⟩ := get 4 _ _ rfl rfl (by kernel_rfl)
            rw [if_pos (by rw [wanted_bool rfl rfl rfl hyg]; rfl)]
            clear hyg
            obtain ⟨y24, hy24, rfl⟩ := get 6 _ _ rfl rfl (by kernel_rfl)
            clear out get
            go_simp
            exact hK _ _ rfl (Below.refl _ _)
          · intro a x1 K out get hb hK
            obtain ⟨yg, hyg, rfl⟩ := get 4 _ _ rfl rfl (by kernel_rfl)
            rw [if_pos (by rw [wanted_bool rfl rfl rfl hyg]; rfl)]
            clear hyg
            obtain ⟨y25, hy25, rfl⟩ := get 7 _ _ rfl rfl (by kernel_rfl)
            clear out get
            go_simp
            exact hK _ _ rfl (Below.refl _ _)
          · intro a x1 K out get hb hK
            obtain ⟨yg, hyg, rfl⟩ := get 4 _ _ rfl rfl (by kernel_rfl)
            rw [if_pos (by rw [wanted_bool rfl rfl rfl hyg]; rfl)]
            clear hyg
            obtain ⟨y26, hy26, rfl⟩ := get 8 _ _ rfl rfl (by kernel_rfl)
            clear out get
            obtain ⟨c1, c2, c3, c4⟩ := CX.out x1 hb
            go_simp
            exact hK _ _ rfl (Below.refl _ _)
          · intro a x1 K out get hb hK
            obtain ⟨yg, hyg, rfl⟩ := get 4 _ _ rfl rfl (by kernel_rfl)
            rw [if_pos (by rw [wanted_bool rfl rfl rfl hyg]; rfl)]
            clear hyg
            have o1 : a.tmps[1]? = some (.string s) := out 1 (by kernel_rfl)
            clear out get
            go_simp
            exact hK _ _ rfl (Below.refl _ _)
          · intro a x1 K out get hb hK
            obtain ⟨yg, hyg, rfl⟩ := get 4 _ _ rfl rfl (by kernel_rfl)
            rw [if_pos (by rw [wanted_bool rfl rfl rfl hyg]; rfl)]
            clear hyg
            have o9 : a.tmps[9]? = some (.int .i64 (x : Nat)) := out 9 (by kernel_rfl)
            clear out get
            go_simp
            exact hK _ _ rfl (Below.refl _ _)
          · intro a x1 K out get hb hK
            obtain ⟨yg, hyg, rfl⟩ := get 4 _ _ rfl rfl (by kernel_rfl)
            rw [if_pos (by rw [wanted_bool rfl rfl rfl hyg]; rfl)]
            clear hyg
            obtain ⟨y28, hy28, rfl⟩ := get 10 _ _ rfl rfl (by kernel_rfl)
            obtain ⟨y29, hy29, rfl⟩ := get 11 _ _ rfl rfl (by kernel_rfl)
            clear out get
            have hix : (0 : Int) ≤ (x : Int) ∧ (x : Int) < (s.size : Int) := ⟨by omega, by omega⟩
            go_simp
            exact hK _ _ rfl (Below.refl _ _)
          · intro a x1 K out get hb hK
            obtain ⟨yg, hyg, rfl⟩ := get 4 _ _ rfl rfl (by kernel_rfl)
            rw [if_pos (by rw [wanted_bool rfl rfl rfl hyg]; rfl)]
            clear hyg
            obtain ⟨y27, hy27, rfl⟩ := get 9 _ _ rfl rfl (by kernel_rfl)
            obtain ⟨y30, hy30, rfl⟩ := get 12 _ _ rfl rfl (by kernel_rfl)
            clear out get
            go_simp
            refine (KH.out x1).mono ?_
            rintro e w2 ⟨rfl, hb2⟩
            exact hK _ _ rfl hb2
          · intro a x1 K out get hb hK
            rw [if_pos (wanted_none rfl)]
            obtain ⟨y22, hy22, rfl⟩ := get 4 _ _ rfl rfl (by kernel_rfl)
            obtain ⟨y31, hy31, rfl⟩ := get 13 _ _ rfl rfl (by kernel_rfl)
            clear out get
            go_simp
            exact hK _ _ rfl (Below.refl _ _)
          refine ao_fin (isD := fun s => decide (18 ≤ s) && decide (s ≤ 32)) (by kernel_rfl) ?_
          intro f9 w1 hv hbel
          have h32 : f9 32 = .bool q := hv 14 _ _ rfl rfl
          clear hv
          generalize hF : (Act.mk (List.toArray (frm f9 _ 0 _)) _) = fr
          simp [frm] at hF
          rw [h32] at hF
          subst hF
          generalize f9 18 = u18 at *
          generalize f9 19 = u19 at *
          generalize f9 20 = u20 at *
          generalize f9 21 = u21 at *
          generalize f9 22 = u22 at *
          generalize f9 23 = u23 at *
          generalize f9 24 = u24 at *
          generalize f9 25 = u25 at *
          generalize f9 26 = u26 at *
          generalize f9 27 = u27 at *
          generalize f9 28 = u28 at *
          generalize f9 29 = u29 at *
          generalize f9 30 = u30 at *
          generalize f9 31 = u31 at *
          clear h32 f9

          cases q with
          | false =>
            have e1 : clsL t s.data.toList (l.take (i + 1)) = clsL t s.data.toList (l.take i) := by rw [HTK.out]; exact clsL_no _ _ (by rw [HCL.out]; decide)
            have hend : clsInvM t s l f cap w (.slice (some ⟨f, 0, none⟩) (clsL t s.data.toList (l.take i)).length cap) (.int .i64 ((i : Int) + 1)) w1 := ⟨i + 1, hlt, by simp, by rw [e1], ⟨fc, by rw [e1]; exact (HR.out.go (hbel.block f (Nat.lt_of_lt_of_le hfl H4.out.size))).skip⟩, H4.out.trans (Fm.below hbel)⟩
            have HEND := Lib.hid hend
            clear hbel e1 hend
            go_wp2
            rw [HW.out]
            exact ⟨HEND.out, by simp [intOf]; omega⟩
          | true =>
            obtain ⟨y, hy⟩ : ∃ y : Nat, y = x + 1 := ⟨_, rfl⟩
            have e1 : clsL t s.data.toList (l.take (i + 1)) = clsL t s.data.toList (l.take i) ++ [y] := by rw [HTK.out, hy]; exact clsL_yes _ _ HCL.out
            obtain ⟨i0, hi0, hz0, hz1, hz2⟩ := info_parts infoI10
            have hF1 : Fm (fun x => x = f) w w1 := H4.out.trans (Fm.below hbel)
            have hfl1 : f < w1.heap.size := Nat.lt_of_lt_of_le hfl hF1.size
            have hR3 : InRow (w1.alloc (.cells #[.int .i64 (y : Nat)] 3)) f cap l (clsL t s.data.toList (l.take i)) i fc := HR.out.go ((Below.heap_alloc _ _ _ hfl1).trans (hbel.block f (Nat.lt_of_lt_of_le hfl H4.out.size)))
            have hroom : (clsL t s.data.toList (l.take i)).length + 1 ≤ cap := by have := hR3.1; have := HLC.out; omega
            have hend : clsInvM t s l f cap w (.slice (some ⟨f, 0, none⟩) ((clsL t s.data.toList (l.take i)).length + 1) cap) (.int .i64 ((i : Int) + 1)) ((w1.alloc (.cells #[.int .i64 (y : Nat)] 3)).setRow f (fc.setIfInBounds (clsL t s.data.toList (l.take i)).length (.int .i64 (y : Nat)))) :=
              ⟨i + 1, hlt, by simp, by rw [e1]; simp, ⟨_, by rw [e1]; exact hR3.put hlt HLC.out y⟩, (hF1.trans (Fm.alloc _ _)).trans ⟨rfl, rfl, rfl, by simp [World.setRow], fun b hb hn => setRow_other _ f b _ hn⟩⟩
            have HEND := Lib.hid hend
            have HR3 := Lib.hid hR3
            have hx2 : IntKind.i64.wrap ((x : Int) + 1) = (y : Int) := by rw [hy, IntKind.wrap_i64]; omega
            have HX2 := Lib.hid hx2
            clear hx2
            have hx1 : wrap64 ((x : Int) + 1) = (y : Int) := by rw [hy]; unfold wrap64; omega
            clear hy
            have hx2 := HX2.out
            clear hbel e1 hend hz0 hz2 hR3 hF1 CX c1 KH
            go_wp2_with (at_builtin; refine wpList_append_in rfl _ _ 35 rfl 3 i0 Tryz.underlying35 hi0 hz1 f _ cap fc rfl HR3.out.2.1 w1.heap.size 1 (.int .i64 (y : Nat)) rfl ?c1 rfl hroom HR3.out.2.2.1 ?_)
            case c1 => rw [Lib.cell_of_heap (blk_new w1 _)]; rfl
            go_wp2
            rw [HW.out]
            clear hx1 hx2
            exact ⟨HEND.out, by simp [intOf]; omega⟩
        · have hlt2 : ¬ (x : Int) < (s.size : Int) := by omega
          have HLT := Lib.hid hlt2
          have hcl : ¬ clsP t s.data.toList x = true := by
            rw [clsP_iff]
            exact fun ⟨h, _⟩ => hxl (by rw [Array.length_toList] at h; exact h)
          have HCL := Lib.hid hcl
          clear hcl hlt2 htt
          go_wp2_with fail
          refine wp_region_order (fun j => ([SP.eq (.int .i64 (x : Nat)), SP.eq (.string s), SP.eq (.int .i64 s.size), SP.eq (.bool false), SP.eq (.bool false), SP.free, SP.free, SP.free, SP.free, SP.free, SP.free, SP.free, SP.free, SP.free, SP.eq (.bool false)] : List SP).getD j SP.free) (by kernel_rfl) (by kernel_rfl) ⟨?_, ?_, ?_, ?_, ?_, ?_, ?_, ?_, ?_, ?_, ?_, ?_, ?_, ?_, ?_, trivial⟩ ?_
          · intro a x1 K out get hb hK
            rw [if_pos (wanted_none rfl)]
            have o9 : a.tmps[9]? = some (.int .i64 (x : Nat)) := out 9 (by kernel_rfl)
            clear out get
            go_simp
            exact hK _ _ rfl (Below.refl _ _)
          · intro a x1 K out get hb hK
            rw [if_pos (wanted_none rfl)]
            have o1 : a.tmps[1]? = some (.string s) := out 1 (by kernel_rfl)
            clear out get
            go_simp
            exact hK _ _ rfl (Below.refl _ _)
          · intro a x1 K out get hb hK
            rw [if_pos (wanted_none rfl)]
            obtain ⟨y19, hy19, rfl⟩ := get 1 _ _ rfl rfl (by kernel_rfl)
            clear out get
            go_simp
            exact hK _ _ rfl (Below.refl _ _)
          · intro a x1 K out get hb hK
            rw [if_pos (wanted_none rfl)]
            obtain ⟨y18, hy18, rfl⟩ := get 0 _ _ rfl rfl (by kernel_rfl)
            obtain ⟨y20, hy20, rfl⟩ := get 2 _ _ rfl rfl (by kernel_rfl)
            clear out get
            have hlt := HLT.out
            go_simp
            exact hK _ _ rfl (Below.refl _ _)
          · intro a x1 K out get hb hK
            rw [if_pos (wanted_none rfl)]
            obtain ⟨y21, hy21, rfl⟩ := get 3 _ _ rfl rfl (by kernel_rfl)
            clear out get
            go_simp
            exact hK _ _ rfl (Below.refl _ _)
          · intro a x1 K out get hb hK
            obtain ⟨yg, hyg, rfl⟩ := get 4 _ _ rfl rfl (by kernel_rfl)
            rw [if_neg (by rw [wanted_bool rfl rfl rfl hyg]; decide)]
            exact hK _ _ trivial (Below.refl _ _)
          · intro a x1 K out get hb hK
            obtain ⟨yg, hyg, rfl⟩ := get 4 _ _ rfl rfl (by kernel_rfl)
            rw [if_neg (by rw [wanted_bool rfl rfl rfl hyg]; decide)]
            exact hK _ _ trivial (Below.refl _ _)
          · intro a x1 K out get hb hK
            obtain ⟨yg, hyg, rfl⟩ := get 4 _ _ rfl rfl (by kernel_rfl)
            rw [if_neg (by rw [wanted_bool rfl rfl rfl hyg]; decide)]
            exact hK _ _ trivial (Below.refl _ _)
          · intro a x1 K out get hb hK
            obtain ⟨yg, hyg, rfl⟩ := get 4 _ _ rfl rfl (by kernel_rfl)
            rw [if_neg (by rw [wanted_bool rfl rfl rfl hyg]; decide)]
            exact hK _ _ trivial (Below.refl _ _)
          · intro a x1 K out get hb hK
            obtain ⟨yg, hyg, rfl⟩ := get 4 _ _ rfl rfl (by kernel_rfl)
            rw [if_neg (by rw [wanted_bool rfl rfl rfl hyg]; decide)]
            exact hK _ _ trivial (Below.refl _ _)
          · intro a x1 K out get hb hK
            obtain ⟨yg, hyg, rfl⟩ := get 4 _ _ rfl rfl (by kernel_rfl)
            rw [if_neg (by rw [wanted_bool rfl rfl rfl hyg]; decide)]
            exact hK _ _ trivial (Below.refl _ _)
          · intro a x1 K out get hb hK
            obtain ⟨yg, hyg, rfl⟩ := get 4 _ _ rfl rfl (by kernel_rfl)
            rw [if_neg (by rw [wanted_bool rfl rfl rfl hyg]; decide)]
            exact hK _ _ trivial (Below.refl _ _)
          · intro a x1 K out get hb hK
            obtain ⟨yg, hyg, rfl⟩ := get 4 _ _ rfl rfl (by kernel_rfl)
            rw [if_neg (by rw [wanted_bool rfl rfl rfl hyg]; decide)]
            exact hK _ _ trivial (Below.refl _ _)
          · intro a x1 K out get hb hK
            obtain ⟨yg, hyg, rfl⟩ := get 4 _ _ rfl rfl (by kernel_rfl)
            rw [if_neg (by rw [wanted_bool rfl rfl rfl hyg]; decide)]
            exact hK _ _ trivial (Below.refl _ _)
          · intro a x1 K out get hb hK
            rw [if_pos (wanted_none rfl)]
            obtain ⟨y22, hy22, rfl⟩ := get 4 _ _ rfl rfl (by kernel_rfl)
            obtain ⟨y31, hy31, -⟩ := get 13 _ _ rfl rfl (by kernel_rfl)
            clear out get
            go_simp
            exact hK _ _ rfl (Below.refl _ _)
          refine ao_fin (isD := fun s => decide (18 ≤ s) && decide (s ≤ 32)) (by kernel_rfl) ?_
          intro f9 w1 hv hbel
          have h32 : f9 32 = .bool false := hv 14 _ _ rfl rfl
          clear hv
          generalize hF : (Act.mk (List.toArray (frm f9 _ 0 _)) _) = fr
          simp [frm] at hF
          rw [h32] at hF
          subst hF
          generalize f9 18 = u18 at *
          generalize f9 19 = u19 at *
          generalize f9 20 = u20 at *
          generalize f9 21 = u21 at *
          generalize f9 22 = u22 at *
          generalize f9 23 = u23 at *
          generalize f9 24 = u24 at *
          generalize f9 25 = u25 at *
          generalize f9 26 = u26 at *
          generalize f9 27 = u27 at *
          generalize f9 28 = u28 at *
          generalize f9 29 = u29 at *
          generalize f9 30 = u30 at *
          generalize f9 31 = u31 at *
          clear h32 f9
          have e1 : clsL t s.data.toList (l.take (i + 1)) = clsL t s.data.toList (l.take i) := by rw [HTK.out]; exact clsL_no _ _ (HCL.out)
          have hend : clsInvM t s l f cap w (.slice (some ⟨f, 0, none⟩) (clsL t s.data.toList (l.take i)).length cap) (.int .i64 ((i : Int) + 1)) w1 := ⟨i + 1, hlt, by simp, by rw [e1], ⟨fc, by rw [e1]; exact (HR.out.go (hbel.block f (Nat.lt_of_lt_of_le hfl H4.out.size))).skip⟩, H4.out.trans (Fm.below hbel)⟩
          have HEND := Lib.hid hend
          clear hbel e1 hend
          go_wp2
          rw [HW.out]
          exact ⟨HEND.out, by simp [intOf]; omega⟩
      · have q1 : ¬ (i : Int) < (l.length : Int) := by omega
        obtain rfl : i = l.length := by omega
        have hown := hR.own (Nat.le_refl _) HLC.out HCM.out
        rw [List.take_length] at hown ⊢
        have hF' : Fm (fun x => F x ∨ (Value.slice (some ⟨f, 0, none⟩) l.length cap).ownBlock = some x) w wr := h4.mono fun y _ hy => .inr (by rw [hy]; rfl)
        have hend : EndsPostP s.data.toList (.cls ⟨sa, sb, sc, sd⟩) H l (.slice (some ⟨f, 0, none⟩) l.length cap) g F w (.returned (.slice (some ⟨f, 0, none⟩) (clsL ⟨sa, sb, sc, sd⟩ s.data.toList l).length cap)) wr :=
          ⟨_, _, F, rfl, hown, fun b hb => ⟨HVF.out b hb, .inl hb⟩, tld_cls HAA.out, HPP.out.go _ h4.size fun y hy => h4.block y (HPP.out.lt y hy) fun e => hfF (by rw [← e]; exact hy), fun y hy => .inl hy, hF'⟩
        have HEND := Lib.hid hend
        clear hR h4 hown hF' hend
        go_wp2
        go_ret
        exact HEND.out
open Go.RowKit
theorem EndsPostP.pre {s : List UInt8} {e : Ex} {H : Nat → Prop} {l : List Nat} {v : Value} {g : Nat} {F : Nat → Prop} {w w1 w' : World} {x : Ending} (hb : Below w.heap.size w w1) (h : EndsPostP s e H l v g F w1 x w') : EndsPostP s e H l v g F w x w' := by
  obtain ⟨v', l', F', h1, h2, h3, h4, h5, h6, h7⟩ := h
  exact ⟨v', l', F', h1, h2, fun f hf => ⟨(h3 f hf).1, (h3 f hf).2.imp id fun h => Nat.le_trans hb.size h⟩, h4, h5, fun y hy => (h6 y hy).imp id fun h => Nat.le_trans hb.size h, (Fm.below hb).trans h7⟩
theorem EndsPostP.ret {s : List UInt8} {e : Ex} {H : Nat → Prop} {l : List Nat} {v : Value} {g : Nat} {F : Nat → Prop} {w w' : World} {x : Ending} (h : EndsPostP s e H l v g F w x w') : ∃ y, x = .returned y := by
  obtain ⟨v', l', F', h1, h2⟩ := h
  exact ⟨v', h1⟩
set_option maxRecDepth 100000 in
set_option maxHeartbeats 4000000 in
theorem mends_nil (s : ByteArray) (e : Ex) (H : Nat → Prop) (w : World) (g : Nat) (F : Nat → Prop) (v : Value) (hp : PartAt s.data.toList e H w g F) (hv : OwnI w v []) :
    Calls Tryz.prog 21 #[.pointer (some ⟨g, 0, none⟩), .string s, v] w (EndsPostP s.data.toList e H [] v g F w) := by
  have hend : EndsPostP s.data.toList e H [] v g F w (.returned (.slice none 0 0)) w := ⟨_, [], F, rfl, OwnI.nil w, fun f hf => (by cases hf), tld_none, by rw [also_nil]; exact hp, fun y hy => .inl hy, Fm.refl _ _⟩
  have HEND := Lib.hid hend
  obtain ⟨a, c, rfl⟩ : ∃ a c, v = .slice a 0 c := by
    rcases hv.form with ⟨rfl, _⟩ | ⟨f, cap, fc, rfl, _⟩
    · exact ⟨_, _, rfl⟩
    · exact ⟨_, _, rfl⟩
  clear hend hp hv
  go_enter Tryz.func21, Tryz.ntmps21
  go_wp2
  go_ret
  exact HEND.out
set_option maxRecDepth 100000 in
set_option maxHeartbeats 4000000 in
theorem mends_empty (s : ByteArray) : EndsK s .empty := by
  intro H l w g F v hp hv hvF ha
  by_cases hl : l = []
  · subst hl; exact mends_nil s _ H w g F v hp hv
  rcases hv.form with ⟨_, h0⟩ | ⟨f, cap, fc, rfl, -, -, -, -, -⟩
  · exact absurd h0 hl
  have hend : EndsPostP s.data.toList .empty H l (.slice (some ⟨f, 0, none⟩) l.length cap) g F w (.returned (.slice none 0 0)) w := ⟨_, [], F, rfl, OwnI.nil w, fun f hf => (by cases hf), tld_empty, hp, fun y hy => .inl hy, Fm.refl _ _⟩
  obtain ⟨_, _, kv, tv, sl, hg⟩ := hp
  have c0 : w.cell? ⟨g, 0, none⟩ = some (.int .u8 1) := by rw [Lib.cell_of_heap hg]; rfl
  have q1 : ((l.length : Int) == 0) = false := by cases l with | nil => exact absurd rfl hl | cons x l => simp; omega
  have HEND := Lib.hid hend
  clear hend hg hv hvF ha hl
  go_enter Tryz.func21, Tryz.ntmps21
  go_wp2
  go_ret
  exact HEND.out
set_option maxRecDepth 100000 in
set_option maxHeartbeats 4000000 in
theorem mends_eps (s : ByteArray) : EndsK s .eps := by
  intro H l w g F v hp hv hvF ha
  by_cases hl : l = []
  · subst hl; exact mends_nil s _ H w g F v hp hv
  rcases id hv.form with ⟨_, h0⟩ | ⟨f, cap, fc, rfl, -, -, -, -, -⟩
  · exact absurd h0 hl
  have hend : EndsPostP s.data.toList .eps H l (.slice (some ⟨f, 0, none⟩) l.length cap) g F w (.returned (.slice (some ⟨f, 0, none⟩) l.length cap)) w := ⟨_, l, F, rfl, hv, fun b hb => ⟨hvF b hb, .inl hb⟩, tld_eps ha, hp, fun y hy => .inl hy, Fm.refl _ _⟩
  obtain ⟨_, _, kv, tv, sl, hg⟩ := hp
  have c0 : w.cell? ⟨g, 0, none⟩ = some (.int .u8 2) := by rw [Lib.cell_of_heap hg]; rfl
  have q1 : ((l.length : Int) == 0) = false := by cases l with | nil => exact absurd rfl hl | cons x l => simp; omega
  have HEND := Lib.hid hend
  clear hend hg hv hvF ha hl
  go_enter Tryz.func21, Tryz.ntmps21
  go_wp2
  go_ret
  exact HEND.out
set_option maxRecDepth 100000 in
set_option maxHeartbeats 4000000 in
theorem mends_cls (s : ByteArray) (hs : s.size ≤ 60) (t : Ws) (ht : t.Ok) : EndsK s (.cls t) := by
  intro H l w g F v hp hv hvF ha
  by_cases hl : l = []
  · subst hl; exact mends_nil s _ H w g F v hp hv
  have KC := Lib.hid (mclass_any t s ht hs H l w g F v hp hv hvF ha hl)
  rcases id hv.form with ⟨_, h0⟩ | ⟨f, cap, fc, rfl, -, -, -, -, -⟩
  · exact absurd h0 hl
  obtain ⟨_, _, kv, tv, sl, hg⟩ := hp
  have c0 : w.cell? ⟨g, 0, none⟩ = some (.int .u8 3) := by rw [Lib.cell_of_heap hg]; rfl
  have q1 : ((l.length : Int) == 0) = false := by cases l with | nil => exact absurd rfl hl | cons x l => simp; omega
  clear hg hv hvF ha hl
  go_enter Tryz.func21, Tryz.ntmps21
  go_wp2_with fail
  refine KC.out.mono ?_
  intro e w1 he
  obtain ⟨y, rfl⟩ := he.ret
  have HE := Lib.hid he
  clear he
  go_wp2
  go_ret
  exact HE.out
set_option maxRecDepth 100000 in
set_option maxHeartbeats 4000000 in
theorem mends_seq (s : ByteArray) (a b : Ex) (KA : EndsK s a) (KB : EndsK s b) : EndsK s (.seq a b) := by
  intro H l w g F v hp hv hvF ha
  by_cases hl : l = []
  · subst hl; exact mends_nil s _ H w g F v hp hv
  rcases id hv.form with ⟨_, h0⟩ | ⟨f, cap, fc, rfl, -, -, -, -, -⟩
  · exact absurd h0 hl
  obtain ⟨hgF, hFl, tv, k, kc, ga, gb, Fa, Fb, ⟨sl, hg⟩, hP, hkF, hkg, hA, hB, sa, sb⟩ := hp
  have hfF : ¬ F f := hvF f rfl
  have hfl : f < w.heap.size := hv.lt (f := f) rfl
  have c0 : w.cell? ⟨g, 0, none⟩ = some (.int .u8 4) := by rw [Lib.cell_of_heap hg]; rfl
  have q1 : ((l.length : Int) == 0) = false := by cases l with | nil => exact absurd rfl hl | cons x l => simp; omega
  have hgl : g < w.heap.size := hFl g hgF
  have hkl : k < w.heap.size := hFl k hkF
  have hC0 : ∀ W : World, W.heap[g]? = w.heap[g]? → W.heap[k]? = w.heap[k]? → W.cell? ⟨g, 6, none⟩ = some (.slice (some ⟨k, 0, none⟩) 2 kc) ∧ W.cell? ⟨k, 0, none⟩ = some (.pointer (some ⟨ga, 0, none⟩)) ∧ W.cell? ⟨k, 1, none⟩ = some (.pointer (some ⟨gb, 0, none⟩)) := fun W h1 h2 =>
    ⟨by rw [Lib.cell_of_heap (h1.trans hg)]; rfl, (hP.go h2).cell 0 (by simp), (hP.go h2).cell 1 (by simp)⟩
  have KA1 := Lib.hid fun (x : World) (hx : Below w.heap.size w x) => (KA H l x ga Fa (.slice (some ⟨f, 0, none⟩) l.length cap) (hA.below hx) (hv.below hx) (fun b hb h => hvF b hb (sa b h).1) ha).mono fun e w2 h => show (∃ y, e = .returned y) ∧ EndsPostP s.data.toList a H l (.slice (some ⟨f, 0, none⟩) l.length cap) ga Fa w e w2 from ⟨h.ret, h.pre hx⟩
  have CA := Lib.hid fun (y : Value) (W : World) (h : EndsPostP s.data.toList a H l (.slice (some ⟨f, 0, none⟩) l.length cap) ga Fa w (.returned y) W) => hC0 W
    (by obtain ⟨_, _, _, _, _, _, _, _, _, hF⟩ := h; exact hF.block g hgl fun e => e.elim (fun e => (sa g e).2.1 rfl) (fun e => by injection e with e; exact hfF (by rw [show f = g from e]; exact hgF)))
    (by obtain ⟨_, _, _, _, _, _, _, _, _, hF⟩ := h; exact hF.block k hkl fun e => e.elim (fun e => (sa k e).2.2.1 rfl) (fun e => by injection e with e; exact hfF (by rw [show f = k from e]; exact hkF)))
  have KB0 : ∀ (y : Value) (x : World), EndsPostP s.data.toList a H l (.slice (some ⟨f, 0, none⟩) l.length cap) ga Fa w (.returned y) x → Calls Tryz.prog 21 #[.pointer (some ⟨gb, 0, none⟩), .string s, y] x fun e w2 => (∃ z, e = .returned z) ∧ EndsPostP s.data.toList (.seq a b) H l (.slice (some ⟨f, 0, none⟩) l.length cap) g F w e w2 ∧ w2.heap[g]? = w.heap[g]? ∧ w2.heap[k]? = w.heap[k]? := by
    intro y x h
    obtain ⟨v', l1, Fa', e1, o1, n1, t1, p1, i1, m1⟩ := h
    injection e1 with e1
    subst e1
    have hBx : PartAt s.data.toList b (EndsP a s.data.toList H) x gb Fb := hB.fm m1 fun z hz e => e.elim (fun e => (sa z e).2.2.2 hz) (fun e => by injection e with e; exact hfF (by rw [show f = z from e]; exact (sb z hz).1))
    have hv1 : ∀ z, y.ownBlock = some z → ¬ Fb z := fun z hz hbz => by
      rcases (n1 z hz).2 with e | e
      · injection e with e; exact hfF (by rw [show f = z from e]; exact (sb z hbz).1)
      · have := hFl z (sb z hbz).1; omega
    refine (KB (EndsP a s.data.toList H) l1 x gb Fb y hBx o1 hv1 (tld_ask t1)).mono fun e w2 h => show (∃ z, e = .returned z) ∧ EndsPostP s.data.toList (.seq a b) H l (.slice (some ⟨f, 0, none⟩) l.length cap) g F w e w2 ∧ w2.heap[g]? = w.heap[g]? ∧ w2.heap[k]? = w.heap[k]? from ?_
    refine ⟨h.ret, ?_⟩
    obtain ⟨v2, l2, Fb', e2, o2, n2, t2, p2, i2, m2⟩ := h
    have hFm : Fm (fun z => F z ∨ (Value.slice (some ⟨f, 0, none⟩) l.length cap).ownBlock = some z) w w2 := (m1.mono fun z _ hz => hz.imp (fun h => (sa z h).1) id).then m2 fun z hz h => by
      rcases h with h | h
      · exact .inl (sb z h).1
      · rcases (n1 z h).2 with e | e
        · exact .inr e
        · omega
    have hgk : ∀ z, F z → ¬ Fa z → ¬ Fb z → w2.heap[z]? = w.heap[z]? := fun z hz ha hb => by
      have hzl := hFl z hz
      have hzf : z ≠ f := fun e => hfF (by rw [← e]; exact hz)
      refine (m2.block z (Nat.lt_of_lt_of_le hzl m1.size) fun e => e.elim hb fun e => ?_).trans (m1.block z hzl fun e => e.elim ha fun e => ?_)
      · rcases (n1 z e).2 with e | e
        · injection e with e; exact hzf e.symm
        · omega
      · injection e with e; exact hzf e.symm
    have hdis : ∀ z, Fa' z → ¬ Fb' z := fun z h1 h2 => by
      have hz1 := p1.lt z h1
      rcases i2 z h2 with h2 | h2
      · rcases i1 z h1 with h1 | h1
        · exact (sa z h1).2.2.2 h2
        · have := hFl z (sb z h2).1; omega
      · omega
    have hpa : PartAt s.data.toList a (Also H l) w2 ga Fa' := p1.fm m2 fun z hz e => by
      rcases e with e | e
      · rcases i1 z hz with h1 | h1
        · exact (sa z h1).2.2.2 e
        · have := hFl z (sb z e).1; omega
      · exact (n1 z e).1 hz
    rw [tld_also t1] at p2
    have hgl2 : ∀ z, F z → z < w2.heap.size := fun z hz => Nat.lt_of_lt_of_le (hFl z hz) hFm.size
    have hag : ∀ z, Fa' z → z ≠ g ∧ z ≠ k := fun z hz => by
      rcases i1 z hz with h1 | h1
      · exact ⟨(sa z h1).2.1, (sa z h1).2.2.1⟩
      · omega
    have hbg : ∀ z, Fb' z → z ≠ g ∧ z ≠ k := fun z hz => by
      rcases i2 z hz with h1 | h1
      · exact ⟨(sb z h1).2.1, (sb z h1).2.2⟩
      · have := m1.size; omega
    refine ⟨?_, hgk g hgF (fun h => (sa g h).2.1 rfl) (fun h => (sb g h).2.1 rfl), hgk k hkF (fun h => (sa k h).2.2.1 rfl) (fun h => (sb k h).2.2 rfl)⟩
    refine ⟨v2, l2, fun z => z = g ∨ z = k ∨ Fa' z ∨ Fb' z, e2, o2, fun z hz => ⟨fun h => ?_, ?_⟩, tld_seq t1 t2, ⟨.inl rfl, fun z hz => ?_, tv, k, kc, ga, gb, Fa', Fb', ⟨sl, (hgk g hgF (fun h => (sa g h).2.1 rfl) (fun h => (sb g h).2.1 rfl)).trans hg⟩, hP.go (hgk k hkF (fun h => (sa k h).2.2.1 rfl) (fun h => (sb k h).2.2 rfl)), .inr (.inl rfl), hkg, hpa, p2, fun z hz => ⟨.inr (.inr (.inl hz)), (hag z hz).1, (hag z hz).2, hdis z hz⟩, fun z hz => ⟨.inr (.inr (.inr hz)), (hbg z hz).1, (hbg z hz).2⟩⟩, fun z hz => ?_, hFm⟩
    · have hor : f = z ∨ w.heap.size ≤ z := by
        rcases (n2 z hz).2 with e | e
        · rcases (n1 z e).2 with e | e
          · injection e with e; exact .inl e
          · exact .inr e
        · exact .inr (Nat.le_trans m1.size e)
      rcases h with h | h | h | h
      · rcases hor with e | e
        · exact hfF (by rw [e, h]; exact hgF)
        · omega
      · rcases hor with e | e
        · exact hfF (by rw [e, h]; exact hkF)
        · omega
      · rcases (n2 z hz).2 with e | e
        · exact (n1 z e).1 h
        · have := p1.lt z h; omega
      · exact (n2 z hz).1 h
    · rcases (n2 z hz).2 with e | e
      · exact (n1 z e).2
      · exact .inr (Nat.le_trans m1.size e)
    · rcases hz with h | h | h | h
      · rw [h]; exact hgl2 g hgF
      · rw [h]; exact hgl2 k hkF
      · exact hpa.lt z h
      · exact p2.lt z h
    · rcases hz with h | h | h | h
      · exact .inl (by rw [h]; exact hgF)
      · exact .inl (by rw [h]; exact hkF)
      · exact (i1 z h).imp (fun h => (sa z h).1) id
      · exact (i2 z h).imp (fun h => (sb z h).1) fun h => Nat.le_trans m1.size h
  have KB1 := Lib.hid KB0
  clear KB0
  have CC := Lib.hid hC0
  clear hC0 hg hP hA hB sa sb hv hvF ha hl KA KB hfF
  go_enter Tryz.func21, Tryz.ntmps21
  go_wp2_with fail
  refine wp_region_orderX [15, 16, 17] (fun i => if i = 15 then 2 else if i = 16 then 3 else if i = 17 then 4 else 1) (pvS [some (.pointer (some ⟨g, 0, none⟩)), some (.pointer (some ⟨g, 0, none⟩)), some (.pointer (some ⟨g, 6, none⟩)), some (.slice (some ⟨k, 0, none⟩) 2 kc), some (.pointer (some ⟨k, 1, none⟩)), some (.pointer (some ⟨gb, 0, none⟩)), some (.string s), some (.pointer (some ⟨g, 0, none⟩)), some (.pointer (some ⟨g, 0, none⟩)), some (.pointer (some ⟨g, 6, none⟩)), some (.slice (some ⟨k, 0, none⟩) 2 kc), some (.pointer (some ⟨k, 0, none⟩)), some (.pointer (some ⟨ga, 0, none⟩)), some (.string s), some (.slice (some ⟨f, 0, none⟩) l.length cap), none, none, none]) (pv [some (.pointer (some ⟨g, 0, none⟩)), some (.pointer (some ⟨g, 0, none⟩)), some (.pointer (some ⟨g, 6, none⟩)), some (.slice (some ⟨k, 0, none⟩) 2 kc), some (.pointer (some ⟨k, 1, none⟩)), some (.pointer (some ⟨gb, 0, none⟩)), some (.string s), some (.pointer (some ⟨g, 0, none⟩)), some (.pointer (some ⟨g, 0, none⟩)), some (.pointer (some ⟨g, 6, none⟩)), some (.slice (some ⟨k, 0, none⟩) 2 kc), some (.pointer (some ⟨k, 0, none⟩)), some (.pointer (some ⟨ga, 0, none⟩)), some (.string s), some (.slice (some ⟨f, 0, none⟩) l.length cap), none, none, none]) (fun W => Below w.heap.size w W)
    (fun W => W.cell? ⟨g, 6, none⟩ = some (.slice (some ⟨k, 0, none⟩) 2 kc) ∧ W.cell? ⟨k, 0, none⟩ = some (.pointer (some ⟨ga, 0, none⟩)) ∧ W.cell? ⟨k, 1, none⟩ = some (.pointer (some ⟨gb, 0, none⟩)))
    (fun m y W => (match m with
      | 0 => EndsPostP s.data.toList a H l (.slice (some ⟨f, 0, none⟩) l.length cap) ga Fa w (.returned y) W
      | _ => EndsPostP s.data.toList (.seq a b) H l (.slice (some ⟨f, 0, none⟩) l.length cap) g F w (.returned y) W) ∧ W.cell? ⟨g, 6, none⟩ = some (.slice (some ⟨k, 0, none⟩) 2 kc) ∧ W.cell? ⟨k, 0, none⟩ = some (.pointer (some ⟨ga, 0, none⟩)) ∧ W.cell? ⟨k, 1, none⟩ = some (.pointer (some ⟨gb, 0, none⟩)))
    (Below.refl _ _).drew (fun W h => CC.out W (h.block g hgl) (h.block k hkl)) (fun m v W h => h.2) (fun W W2 h hb => h.trans (hb.mono h.size)) (fun _ _ _ h => h) (by kernel_rfl) (by kernel_rfl) ⟨?_, ?_, ?_, ?_, ?_, ?_, ?_, ?_, ?_, ?_, ?_, ?_, ?_, ?_, ?_, ?_, ?_, ?_, trivial⟩ ?_
  · intro a x K out get old hC hK
    rw [if_pos (wanted_none rfl)]
    have o0 : a.tmps[0]? = some (.pointer (some ⟨g, 0, none⟩)) := out 0 (by kernel_rfl)
    clear out get old
    go_simp
    exact hK _ rfl (fun _ => rfl)
  · intro a x K out get old hC hK
    rw [if_pos (wanted_none rfl)]
    obtain ⟨y26, hy26, rfl⟩ := get 0 _ _ rfl rfl (by kernel_rfl)
    clear out get old
    go_simp
    exact hK _ rfl (fun _ => rfl)
  · intro a x K out get old hC hK
    rw [if_pos (wanted_none rfl)]
    obtain ⟨y27, hy27, rfl⟩ := get 1 _ _ rfl rfl (by kernel_rfl)
    clear out get old
    go_simp
    exact hK _ rfl (fun _ => rfl)
  · intro a x K out get old hC hK
    rw [if_pos (wanted_none rfl)]
    obtain ⟨y28, hy28, rfl⟩ := get 2 _ _ rfl rfl (by kernel_rfl)
    clear out get old
    obtain ⟨d0, d1, d2⟩ := hC
    go_simp
    exact hK _ rfl (fun _ => rfl)
  · intro a x K out get old hC hK
    rw [if_pos (wanted_none rfl)]
    obtain ⟨y29, hy29, rfl⟩ := get 3 _ _ rfl rfl (by kernel_rfl)
    clear out get old
    go_simp
    exact hK _ rfl (fun _ => rfl)
  · intro a x K out get old hC hK
    rw [if_pos (wanted_none rfl)]
    obtain ⟨y30, hy30, rfl⟩ := get 4 _ _ rfl rfl (by kernel_rfl)
    clear out get old
    obtain ⟨d0, d1, d2⟩ := hC
    go_simp
    exact hK _ rfl (fun _ => rfl)
  · intro a x K out get old hC hK
    rw [if_pos (wanted_none rfl)]
    have o1 : a.tmps[1]? = some (.string s) := out 1 (by kernel_rfl)
    clear out get old
    go_simp
    exact hK _ rfl (fun _ => rfl)
  · intro a x K out get old hC hK
    rw [if_pos (wanted_none rfl)]
    have o0 : a.tmps[0]? = some (.pointer (some ⟨g, 0, none⟩)) := out 0 (by kernel_rfl)
    clear out get old
    go_simp
    exact hK _ rfl (fun _ => rfl)
  · intro a x K out get old hC hK
    rw [if_pos (wanted_none rfl)]
    obtain ⟨y33, hy33, rfl⟩ := get 7 _ _ rfl rfl (by kernel_rfl)
    clear out get old
    go_simp
    exact hK _ rfl (fun _ => rfl)
  · intro a x K out get old hC hK
    rw [if_pos (wanted_none rfl)]
    obtain ⟨y34, hy34, rfl⟩ := get 8 _ _ rfl rfl (by kernel_rfl)
    clear out get old
    go_simp
    exact hK _ rfl (fun _ => rfl)
  · intro a x K out get old hC hK
    rw [if_pos (wanted_none rfl)]
    obtain ⟨y35, hy35, rfl⟩ := get 9 _ _ rfl rfl (by kernel_rfl)
    clear out get old
    obtain ⟨d0, d1, d2⟩ := hC
    go_simp
    exact hK _ rfl (fun _ => rfl)
  · intro a x K out get old hC hK
    rw [if_pos (wanted_none rfl)]
    obtain ⟨y36, hy36, rfl⟩ := get 10 _ _ rfl rfl (by kernel_rfl)
    clear out get old
    go_simp
    exact hK _ rfl (fun _ => rfl)
  · intro a x K out get old hC hK
    rw [if_pos (wanted_none rfl)]
    obtain ⟨y37, hy37, rfl⟩ := get 11 _ _ rfl rfl (by kernel_rfl)
    clear out get old
    obtain ⟨d0, d1, d2⟩ := hC
    go_simp
    exact hK _ rfl (fun _ => rfl)
  · intro a x K out get old hC hK
    rw [if_pos (wanted_none rfl)]
    have o1 : a.tmps[1]? = some (.string s) := out 1 (by kernel_rfl)
    clear out get old
    go_simp
    exact hK _ rfl (fun _ => rfl)
  · intro a x K out get old hC hK
    rw [if_pos (wanted_none rfl)]
    have o2 : a.tmps[2]? = some (.slice (some ⟨f, 0, none⟩) l.length cap) := out 2 (by kernel_rfl)
    clear out get old
    go_simp
    exact hK _ rfl (fun _ => rfl)
  · intro a x K out get hJ hK
    rw [if_pos (wanted_none rfl)]
    obtain ⟨y38, hy38, rfl, -⟩ := get 12 _ _ rfl rfl (by kernel_rfl)
    obtain ⟨y39, hy39, rfl, -⟩ := get 13 _ _ rfl rfl (by kernel_rfl)
    obtain ⟨y40, hy40, rfl, -⟩ := get 14 _ _ rfl rfl (by kernel_rfl)
    clear out get
    have hx : Below w.heap.size w x := hJ
    go_simp
    refine (KA1.out x hx).mono ?_
    rintro e w2 ⟨⟨v2, e2⟩, h2⟩
    subst e2
    exact hK _ _ trivial ⟨h2, CA.out v2 w2 h2⟩
  · intro a x K out get hJ hK
    rw [if_pos (wanted_none rfl)]
    obtain ⟨y31, hy31, rfl, -⟩ := get 5 _ _ rfl rfl (by kernel_rfl)
    obtain ⟨y32, hy32, rfl, -⟩ := get 6 _ _ rfl rfl (by kernel_rfl)
    obtain ⟨y41, hy41, hG⟩ := hJ
    clear out get
    go_simp
    refine (KB1.out y41 x hG.1).mono ?_
    rintro e w2 ⟨⟨v2, e2⟩, h2, h3, h4⟩
    subst e2
    exact hK _ _ trivial ⟨h2, CC.out w2 h3 h4⟩
  · intro a x K out get hJ hK
    rw [if_pos (wanted_none rfl)]
    obtain ⟨y42, hy42, hG⟩ := hJ
    clear out get
    go_simp
    exact hK _ _ trivial hG
  refine ao_finX (isD := fun s => (decide (26 ≤ s) && decide (s ≤ 42)) || decide (s = 6)) 2 (some 6) rfl (by kernel_rfl) (by kernel_rfl) (by kernel_rfl) ?_
  intro f9 w1 hv hG hn
  have h6 := (hG 6 rfl).1
  clear hv hG hn
  have HE := Lib.hid h6
  clear h6
  simp only [frm]
  simp
  generalize f9 6 = u6 at *
  go_wp2
  go_ret
  exact HE.out
open Go.RowKit
theorem Ex.size_pos (e : Ex) : 0 < e.size := by cases e <;> simp only [Ex.size] <;> omega
theorem rx_form (e : Ex) : ∃ k s ks, e.rx = .node k s ks := by cases e <;> exact ⟨_, _, _, rfl⟩
open Go.RowKit
theorem node_sets {ok : Nat → Prop} {w : World} (N : Nat) : ∀ (r : Rx), r.size ≤ N → ∀ (b off : Nat), NodeAt ok w b off r → r.SetsOk := by
  induction N with
  | zero => intro r h; have := r.size_pos; omega
  | succ N ih =>
    rintro ⟨k, s, ks⟩ hN b off h
    have hN' : Rx.sizes ks ≤ N := by simp [Rx.size] at hN; omega
    unfold NodeAt at h
    obtain ⟨_, hs, _, al, cap, _, _, _, h3⟩ := h
    unfold Rx.SetsOk
    refine ⟨hs, fun r hr => ?_⟩
    rcases h3 with rfl | ⟨b', off', _, _, _, h4⟩
    · cases hr
    · obtain ⟨i, hi, rfl⟩ := List.getElem_of_mem hr
      exact ih _ (Nat.le_trans (size_kid hi) hN') _ _ (nodesAt_get h4 i hi)
theorem ReAt.sets {ok : Nat → Prop} {w : World} {v : Value} {r : Rx} (h : ReAt ok w v r) : r.SetsOk := by
  obtain ⟨k, s, ks⟩ := r
  obtain ⟨_, hs, al, cap, _, _, _, h3⟩ := h
  unfold Rx.SetsOk
  refine ⟨hs, fun r hr => ?_⟩
  rcases h3 with rfl | ⟨b', off', _, _, _, h4⟩
  · cases hr
  · obtain ⟨i, hi, rfl⟩ := List.getElem_of_mem hr
    exact node_sets _ _ (Nat.le_refl _) _ _ (nodesAt_get h4 i hi)
theorem may_good {r : Rx} (h : mayR r = true) : goodR r = true ∧ r.size ≤ 2000 := by
  unfold mayR mayN at h
  simpa using h
theorem may_ex {ok : Nat → Prop} {w : World} {v : Value} {r : Rx} (h : ReAt ok w v r) (hm : mayR r = true) : ∃ e : Ex, e.rx = r ∧ e.Wf ∧ e.size ≤ 2000 := by
  have hg := may_good hm
  obtain ⟨e, h1, h2⟩ := ex_of_good r.size r (Nat.le_refl _) hg.1 h.sets
  exact ⟨e, h1, h2, by rw [← Ex.size_rx, h1]; exact hg.2⟩
open Go.RowKit
def manyW (w1 : World) (g : Nat) (x0 x1 x2 x3 x4 x5 : Value) : World :=
  (putW w1 g (.int .u8 6) (.int .u64 0) (.int .u64 0) (.int .u64 0) (.int .u64 0) (.slice (some ⟨w1.heap.size, 0, none⟩) 1 1)).alloc (.cells #[x0, x1, x2, x3, x4, x5] 27)
theorem many_step {n0 g : Nat} {w w1 : World} {x0 x1 x2 x3 x4 x5 : Value} {r : Rx} (hn0 : n0 ≤ g) (hlt : g < w1.heap.size) (hv : ReAt (Own n0 g) w1 (.agg #[x0, x1, x2, x3, x4, x5]) r) (hn : w1.heap[g]? = some nilBlk) (hb : Below n0 w w1) :
    (manyW w1 g x0 x1 x2 x3 x4 x5).heap[g]? = some (.cells #[.int .u8 6, .int .u64 0, .int .u64 0, .int .u64 0, .int .u64 0, .slice (some ⟨w1.heap.size, 0, none⟩) 1 1] 27) ∧
    ReAt (New n0) (manyW w1 g x0 x1 x2 x3 x4 x5) (.agg #[.int .u8 6, .int .u64 0, .int .u64 0, .int .u64 0, .int .u64 0, .slice (some ⟨w1.heap.size, 0, none⟩) 1 1]) (.node 6 Ws.nil [r]) ∧ Below n0 w (manyW w1 g x0 x1 x2 x3 x4 x5) := by
  have hsz := putW_size w1 g (.int .u8 6) (.int .u64 0) (.int .u64 0) (.int .u64 0) (.int .u64 0) (.slice (some ⟨w1.heap.size, 0, none⟩) 1 1)
  refine ⟨(Below.heap_alloc _ _ _ (by rw [hsz]; exact hlt)).trans (putR hn _ _ _ _ _ _), ⟨by decide, Ws.nil_ok, _, _, rfl, Nat.le_refl _, by simp, row_one (blk_at _ _ hsz.symm) ?_ ?_⟩, (putB hb hn0 _ _ _ _ _ _).alloc (by rw [hsz]; omega) _⟩
  · unfold New; omega
  · refine hv.go ⟨by unfold manyW; rw [World.size_alloc, hsz]; omega, fun b h1 h2 => ⟨?_, (Below.heap_alloc _ _ _ (by rw [hsz]; exact h1)).trans (putW_other _ _ _ _ _ _ _ _ h2.2)⟩⟩
    unfold Own at h2; unfold New; omega
set_option maxHeartbeats 1000000 in
theorem manyX_any {ok : Nat → Prop} (r : Rx) (v : Value) (w : World) (h : ReAt ok w v r) :
    Calls Tryz.prog 69 #[v] w (NewPost (.node 6 Ws.nil [r]) w) := by
  obtain ⟨y0, y1, y2, y3, y4, yl, yn, yc, rfl⟩ := cells_re h
  have KC := Lib.hid fun W (hb : Below w.heap.size w W) => cloneR r _ W (h.below hb)
  clear h
  go_enter Tryz.func69, Tryz.ntmps69
  go_wp2_with fail
  refine (KC.out _ (((Below.refl _ w).alloc (Nat.le_refl _) _).alloc (by simp) _)).mono ?_
  rintro e w1 ⟨v, rfl, hv, hb1⟩
  obtain ⟨x0, x1, x2, x3, x4, bl, n', cp, rfl⟩ := cells_re hv
  have hn : w1.heap[w.heap.size + 1]? = some nilBlk := (hb1.block _ (by simp)).trans (blk_at _ _ (by simp))
  have hs := hb1.size
  simp at hs
  have hbw : Below w.heap.size w w1 := (((Below.refl _ w).alloc (Nat.le_refl _) _).alloc (by simp) _).trans (hb1.mono (by simp; omega))
  obtain ⟨g0, g1, g2, g3, g4, g5, p0, p1, p2, p3, p4, p5⟩ := cellsR hn
  have hlt : w.heap.size + 1 < w1.heap.size := by omega
  obtain ⟨s1, s2, s3⟩ := many_step (g := w.heap.size + 1) (n0 := w.heap.size) (r := r) (by omega) (by omega) (by
    refine hv.imp fun b _ h => ?_
    unfold New at h; simp at h; unfold Own; omega) hn hbw
  unfold manyW putW at s1 s2 s3
  have HS1 := Lib.hid s1
  have HS2 := Lib.hid s2
  have HS3 := Lib.hid s3
  clear hv hn hbw hb1 s1 s2 s3
  go_wp2
  exact ret_re HS1.out Tryz.results69 rfl rfl ⟨_, rfl, HS2.out, HS3.out⟩
end Go.Proofs.YtiegejbbjlhpdaaGreatDoor
/- Lemmas of mine. -/
namespace Go.Proofs.YtiegejbbjlhpdaaGreatDoor
inductive PR where
  | ok (e : Ex) (l : List UInt8)
  | bad (l : List UInt8)
inductive SR where
  | ok (b : Nat) (l : List UInt8)
  | bad (l : List UInt8)
def hexV (c : UInt8) : Option Nat := if 48 ≤ c.toNat ∧ c.toNat ≤ 57 then some (c.toNat - 48) else if 97 ≤ c.toNat ∧ c.toNat ≤ 102 then some (c.toNat - 87) else none
def ownB (c : UInt8) : Bool := !specB c.toNat
def sgn : List UInt8 → SR
  | [] => .bad []
  | c :: l => if c = 92 then
      (match l with
      | [] => .bad []
      | d :: l1 => match hexV d with
        | none => .bad (d :: l1)
        | some x => match l1 with
          | [] => .bad []
          | d' :: l2 => match hexV d' with
            | none => .bad (d' :: l2)
            | some y => .ok (16 * x + y) l2)
    else if ownB c = true then .ok c.toNat l else .bad (c :: l)
def NotAt (c : UInt8) (l : List UInt8) : Prop := ∀ t, l ≠ c :: t
def ofS (s : Ws) : Ex := if sameW s Ws.nil = true then .empty else .cls s
def rngW (lo hi : Nat) : Ws := ofN (List.range' lo (hi + 1 - lo))
inductive PCls : Ws → List UInt8 → PR → Prop
  | done (out : Ws) (l : List UInt8) : PCls out (93 :: l) (.ok (ofS out) l)
  | bad1 {out : Ws} {l r : List UInt8} : NotAt 93 l → sgn l = .bad r → PCls out l (.bad r)
  | one {out : Ws} {l : List UInt8} {b : Nat} {l1 : List UInt8} {res : PR} : NotAt 93 l → sgn l = .ok b l1 → NotAt 45 l1 → PCls (out.join (rngW b b)) l1 res → PCls out l res
  | bad2 {out : Ws} {l : List UInt8} {b : Nat} {l2 r : List UInt8} : NotAt 93 l → sgn l = .ok b (45 :: l2) → sgn l2 = .bad r → PCls out l (.bad r)
  | less {out : Ws} {l : List UInt8} {b : Nat} {l2 : List UInt8} {b' : Nat} {l3 : List UInt8} : NotAt 93 l → sgn l = .ok b (45 :: l2) → sgn l2 = .ok b' l3 → b' < b → PCls out l (.bad l2)
  | range {out : Ws} {l : List UInt8} {b : Nat} {l2 : List UInt8} {b' : Nat} {l3 : List UInt8} {res : PR} : NotAt 93 l → sgn l = .ok b (45 :: l2) → sgn l2 = .ok b' l3 → b ≤ b' → PCls (out.join (rngW b b')) l3 res → PCls out l res
def stars : Ex → List UInt8 → Ex × List UInt8
  | e, [] => (e, [])
  | e, c :: l => if c = 42 then stars (.star e) l else (e, c :: l)
def begB : List UInt8 → Bool
  | [] => false
  | c :: _ => decide (c = 46) || decide (c = 91) || decide (c = 40) || decide (c = 92) || ownB c
inductive Tg where
  | atom
  | row
  | alt
inductive PX : Tg → List UInt8 → PR → Prop
  | dot (l : List UInt8) : PX .atom (46 :: l) (.ok (.cls Ws.full) l)
  | cls {l : List UInt8} {res : PR} : PCls Ws.nil l res → PX .atom (91 :: l) res
  | eps (l : List UInt8) : PX .atom (40 :: 41 :: l) (.ok .eps l)
  | round {l : List UInt8} {e : Ex} {l1 : List UInt8} : NotAt 41 l → PX .alt l (.ok e (41 :: l1)) → PX .atom (40 :: l) (.ok e l1)
  | roundNo {l : List UInt8} {e : Ex} {l1 : List UInt8} : NotAt 41 l → PX .alt l (.ok e l1) → NotAt 41 l1 → PX .atom (40 :: l) (.bad l1)
  | roundBad {l r : List UInt8} : NotAt 41 l → PX .alt l (.bad r) → PX .atom (40 :: l) (.bad r)
  | sign {l : List UInt8} {b : Nat} {l1 : List UInt8} : NotAt 46 l → NotAt 91 l → NotAt 40 l → sgn l = .ok b l1 → PX .atom l (.ok (.cls (rngW b b)) l1)
  | signBad {l r : List UInt8} : NotAt 46 l → NotAt 91 l → NotAt 40 l → sgn l = .bad r → PX .atom l (.bad r)
  | rowBad {l r : List UInt8} : PX .atom l (.bad r) → PX .row l (.bad r)
  | rowOne {l : List UInt8} {a : Ex} {l1 : List UInt8} {e : Ex} {l2 : List UInt8} : PX .atom l (.ok a l1) → stars a l1 = (e, l2) → begB l2 = false → PX .row l (.ok e l2)
  | rowMore {l : List UInt8} {a : Ex} {l1 : List UInt8} {p : Ex} {l2 : List UInt8} {e : Ex} {l3 : List UInt8} : PX .atom l (.ok a l1) → stars a l1 = (p, l2) → begB l2 = true → PX .row l2 (.ok e l3) → PX .row l (.ok (.seq p e) l3)
  | rowMoreBad {l : List UInt8} {a : Ex} {l1 : List UInt8} {p : Ex} {l2 r : List UInt8} : PX .atom l (.ok a l1) → stars a l1 = (p, l2) → begB l2 = true → PX .row l2 (.bad r) → PX .row l (.bad r)
  | altBad {l r : List UInt8} : PX .row l (.bad r) → PX .alt l (.bad r)
  | altOne {l : List UInt8} {e : Ex} {l1 : List UInt8} : PX .row l (.ok e l1) → NotAt 124 l1 → PX .alt l (.ok e l1)
  | altMore {l : List UInt8} {e : Ex} {l1 : List UInt8} {f : Ex} {l2 : List UInt8} : PX .row l (.ok e (124 :: l1)) → PX .alt l1 (.ok f l2) → PX .alt l (.ok (.alt e f) l2)
  | altMoreBad {l : List UInt8} {e : Ex} {l1 r : List UInt8} : PX .row l (.ok e (124 :: l1)) → PX .alt l1 (.bad r) → PX .alt l (.bad r)
theorem PCls.det {out : Ws} {l : List UInt8} {r1 : PR} (h : PCls out l r1) : ∀ {r2 : PR}, PCls out l r2 → r1 = r2 := by
  induction h with
  | done out l => intro r2 h2; cases h2 with
    | done => rfl
    | bad1 h _ => exact absurd rfl (h _)
    | one h _ _ _ => exact absurd rfl (h _)
    | bad2 h _ _ => exact absurd rfl (h _)
    | less h _ _ _ => exact absurd rfl (h _)
    | range h _ _ _ _ => exact absurd rfl (h _)
  | bad1 h1 h2 => intro r2 h; cases h with
    | done => exact absurd rfl (h1 _)
    | bad1 _ k => simp_all
    | one _ k _ _ => simp_all
    | bad2 _ k _ => simp_all
    | less _ k _ _ => simp_all
    | range _ k _ _ _ => simp_all
  | one h1 h2 h3 _ ih => intro r2 h; cases h with
    | done => exact absurd rfl (h1 _)
    | bad1 _ k => simp_all
    | one _ k _ q => rw [h2] at k; cases k; exact ih q
    | bad2 _ k _ => rw [h2] at k; cases k; exact absurd rfl (h3 _)
    | less _ k _ _ => rw [h2] at k; cases k; exact absurd rfl (h3 _)
    | range _ k _ _ _ => rw [h2] at k; cases k; exact absurd rfl (h3 _)
  | bad2 h1 h2 h3 => intro r2 h; cases h with
    | done => exact absurd rfl (h1 _)
    | bad1 _ k => simp_all
    | one _ k q _ => rw [h2] at k; cases k; exact absurd rfl (q _)
    | bad2 _ k q => rw [h2] at k; cases k; rw [h3] at q; cases q; rfl
    | less _ k q _ => rw [h2] at k; cases k; rw [h3] at q; cases q
    | range _ k q _ _ => rw [h2] at k; cases k; rw [h3] at q; cases q
  | less h1 h2 h3 h4 => intro r2 h; cases h with
    | done => exact absurd rfl (h1 _)
    | bad1 _ k => simp_all
    | one _ k q _ => rw [h2] at k; cases k; exact absurd rfl (q _)
    | bad2 _ k q => rw [h2] at k; cases k; rw [h3] at q; cases q
    | less _ k q _ => rw [h2] at k; cases k; rfl
    | range _ k q u _ => rw [h2] at k; cases k; rw [h3] at q; cases q; omega
  | range h1 h2 h3 h4 _ ih => intro r2 h; cases h with
    | done => exact absurd rfl (h1 _)
    | bad1 _ k => simp_all
    | one _ k q _ => rw [h2] at k; cases k; exact absurd rfl (q _)
    | bad2 _ k q => rw [h2] at k; cases k; rw [h3] at q; cases q
    | less _ k q u => rw [h2] at k; cases k; rw [h3] at q; cases q; omega
    | range _ k q u z => rw [h2] at k; cases k; rw [h3] at q; cases q; exact ih z
theorem sgn_41 (l : List UInt8) : sgn (41 :: l) = .bad (41 :: l) := by unfold sgn; simp; decide
theorem PX.det {t : Tg} {l : List UInt8} {r1 : PR} (h : PX t l r1) : ∀ {r2 : PR}, PX t l r2 → r1 = r2 := by
  induction h with
  | dot l => intro r2 h; cases h with
    | dot => rfl
    | sign k _ _ _ => exact absurd rfl (k _)
    | signBad k _ _ _ => exact absurd rfl (k _)
  | cls hc => intro r2 h; cases h with
    | cls k => exact hc.det k
    | sign _ k _ _ => exact absurd rfl (k _)
    | signBad _ k _ _ => exact absurd rfl (k _)
  | eps l => intro r2 h; cases h with
    | eps => rfl
    | round k _ => exact absurd rfl (k _)
    | roundNo k _ _ => exact absurd rfl (k _)
    | roundBad k _ => exact absurd rfl (k _)
    | sign _ _ k _ => exact absurd rfl (k _)
    | signBad _ _ k _ => exact absurd rfl (k _)
  | round h1 _ ih => intro r2 h; cases h with
    | eps => exact absurd rfl (h1 _)
    | round _ k => cases ih k; rfl
    | roundNo _ k q => cases ih k; exact absurd rfl (q _)
    | roundBad _ k => cases ih k
    | sign _ _ k _ => exact absurd rfl (k _)
    | signBad _ _ k _ => exact absurd rfl (k _)
  | roundNo h1 _ h3 ih => intro r2 h; cases h with
    | eps => exact absurd rfl (h1 _)
    | round _ k => cases ih k; exact absurd rfl (h3 _)
    | roundNo _ k q => cases ih k; rfl
    | roundBad _ k => cases ih k
    | sign _ _ k _ => exact absurd rfl (k _)
    | signBad _ _ k _ => exact absurd rfl (k _)
  | roundBad h1 _ ih => intro r2 h; cases h with
    | eps => exact absurd rfl (h1 _)
    | round _ k => cases ih k
    | roundNo _ k q => cases ih k
    | roundBad _ k => cases ih k; rfl
    | sign _ _ k _ => exact absurd rfl (k _)
    | signBad _ _ k _ => exact absurd rfl (k _)
  | sign h1 h2 h3 h4 => intro r2 h; cases h with
    | dot => exact absurd rfl (h1 _)
    | cls => exact absurd rfl (h2 _)
    | eps => exact absurd rfl (h3 _)
    | round => exact absurd rfl (h3 _)
    | roundNo => exact absurd rfl (h3 _)
    | roundBad => exact absurd rfl (h3 _)
    | sign _ _ _ k => rw [h4] at k; cases k; rfl
    | signBad _ _ _ k => rw [h4] at k; cases k
  | signBad h1 h2 h3 h4 => intro r2 h; cases h with
    | dot => exact absurd rfl (h1 _)
    | cls => exact absurd rfl (h2 _)
    | eps => exact absurd rfl (h3 _)
    | round => exact absurd rfl (h3 _)
    | roundNo => exact absurd rfl (h3 _)
    | roundBad => exact absurd rfl (h3 _)
    | sign _ _ _ k => rw [h4] at k; cases k
    | signBad _ _ _ k => rw [h4] at k; cases k; rfl
  | rowBad _ ih => intro r2 h; cases h with
    | rowBad k => cases ih k; rfl
    | rowOne k _ _ => cases ih k
    | rowMore k _ _ _ => cases ih k
    | rowMoreBad k _ _ _ => cases ih k
  | rowOne _ h2 h3 ih => intro r2 h; cases h with
    | rowBad k => cases ih k
    | rowOne k q _ => cases ih k; rw [h2] at q; cases q; rfl
    | rowMore k q u _ => cases ih k; rw [h2] at q; cases q; rw [h3] at u; cases u
    | rowMoreBad k q u _ => cases ih k; rw [h2] at q; cases q; rw [h3] at u; cases u
  | rowMore _ h2 h3 _ ih ih2 => intro r2 h; cases h with
    | rowBad k => cases ih k
    | rowOne k q u => cases ih k; rw [h2] at q; cases q; rw [h3] at u; cases u
    | rowMore k q _ z => cases ih k; rw [h2] at q; cases q; cases ih2 z; rfl
    | rowMoreBad k q _ z => cases ih k; rw [h2] at q; cases q; cases ih2 z
  | rowMoreBad _ h2 h3 _ ih ih2 => intro r2 h; cases h with
    | rowBad k => cases ih k
    | rowOne k q u => cases ih k; rw [h2] at q; cases q; rw [h3] at u; cases u
    | rowMore k q _ z => cases ih k; rw [h2] at q; cases q; cases ih2 z
    | rowMoreBad k q _ z => cases ih k; rw [h2] at q; cases q; cases ih2 z; rfl
  | altBad _ ih => intro r2 h; cases h with
    | altBad k => cases ih k; rfl
    | altOne k _ => cases ih k
    | altMore k _ => cases ih k
    | altMoreBad k _ => cases ih k
  | altOne _ h2 ih => intro r2 h; cases h with
    | altBad k => cases ih k
    | altOne k _ => cases ih k; rfl
    | altMore k _ => cases ih k; exact absurd rfl (h2 _)
    | altMoreBad k _ => cases ih k; exact absurd rfl (h2 _)
  | altMore _ _ ih ih2 => intro r2 h; cases h with
    | altBad k => cases ih k
    | altOne k q => cases ih k; exact absurd rfl (q _)
    | altMore k z => cases ih k; cases ih2 z; rfl
    | altMoreBad k z => cases ih k; cases ih2 z
  | altMoreBad _ _ ih ih2 => intro r2 h; cases h with
    | altBad k => cases ih k
    | altOne k q => cases ih k; exact absurd rfl (q _)
    | altMore k z => cases ih k; cases ih2 z
    | altMoreBad k z => cases ih k; cases ih2 z; rfl
end Go.Proofs.YtiegejbbjlhpdaaGreatDoor
/- Lemmas of mine. -/
namespace Go.Proofs.YtiegejbbjlhpdaaGreatDoor
theorem hexV_lt {c : UInt8} {x : Nat} (h : hexV c = some x) : x < 16 := by
  unfold hexV at h
  split at h
  · cases h; omega
  · split at h
    · cases h; omega
    · cases h
def SFact (l : List UInt8) : SR → Prop
  | .ok b l1 => b < 256 ∧ l1 <:+ l ∧ l1.length < l.length
  | .bad r => r <:+ l
theorem sgn_own (c : UInt8) (l : List UInt8) (h : c ≠ 92) : sgn (c :: l) = if ownB c = true then .ok c.toNat l else .bad (c :: l) := by
  simp only [sgn, if_neg h]
theorem sgn_92_nil : sgn [92] = .bad [] := rfl
theorem sgn_92_no {d : UInt8} (l : List UInt8) (h : hexV d = none) : sgn (92 :: d :: l) = .bad (d :: l) := by
  simp only [sgn, if_true, h]
theorem sgn_92_one {d : UInt8} {x : Nat} (h : hexV d = some x) : sgn [92, d] = .bad [] := by
  simp only [sgn, if_true, h]
theorem sgn_92_two {d d' : UInt8} {x : Nat} (l : List UInt8) (h : hexV d = some x) (h' : hexV d' = none) : sgn (92 :: d :: d' :: l) = .bad (d' :: l) := by
  simp only [sgn, if_true, h, h']
theorem sgn_92_yes {d d' : UInt8} {x y : Nat} (l : List UInt8) (h : hexV d = some x) (h' : hexV d' = some y) : sgn (92 :: d :: d' :: l) = .ok (16 * x + y) l := by
  simp only [sgn, if_true, h, h']
theorem sgn_fact (l : List UInt8) : SFact l (sgn l) := by
  match l with
  | [] => exact List.suffix_refl _
  | c :: l =>
    by_cases hc : c = 92
    · subst hc
      match l with
      | [] => rw [sgn_92_nil]; exact List.nil_suffix
      | [d] =>
        cases h1 : hexV d with
        | none => rw [sgn_92_no _ h1]; exact List.suffix_cons _ _
        | some x => rw [sgn_92_one h1]; exact List.nil_suffix
      | d :: d' :: l2 =>
        cases h1 : hexV d with
        | none => rw [sgn_92_no _ h1]; exact List.suffix_cons _ _
        | some x =>
          cases h2 : hexV d' with
          | none => rw [sgn_92_two _ h1 h2]; exact ⟨[92, d], rfl⟩
          | some y =>
            have a1 := hexV_lt h1
            have a2 := hexV_lt h2
            rw [sgn_92_yes _ h1 h2]
            exact ⟨by omega, ⟨[92, d, d'], rfl⟩, by simp only [List.length_cons]; omega⟩
    · rw [sgn_own c l hc]
      by_cases ho : ownB c = true
      · rw [if_pos ho]; exact ⟨c.toNat_lt, List.suffix_cons _ _, by simp⟩
      · rw [if_neg ho]; exact List.suffix_refl _
theorem sgn_ok {l l1 : List UInt8} {b : Nat} (h : sgn l = .ok b l1) : b < 256 ∧ l1 <:+ l ∧ l1.length < l.length := by
  have := sgn_fact l; rw [h] at this; exact this
theorem sgn_bad {l r : List UInt8} (h : sgn l = .bad r) : r <:+ l := by
  have := sgn_fact l; rw [h] at this; exact this
theorem rng_ok (a b : Nat) : (rngW a b).Ok := ofN_ok _
theorem rng_ne {b : Nat} (h : b < 256) : rngW b b ≠ Ws.nil := by
  intro e
  have h1 : (rngW b b).has b = true := by
    unfold rngW
    rw [has_ofN _ (by intro x hx; simp at hx; omega) b h]
    simp
  rw [e, Ws.has_nil] at h1
  cases h1
theorem ofS_wf {s : Ws} (h : s.Ok) : (ofS s).Wf ∧ (ofS s).size = 1 := by
  unfold ofS
  split
  · exact ⟨trivial, rfl⟩
  · rename_i hn
    exact ⟨⟨h, fun e => hn (sameW_iff.2 e)⟩, rfl⟩
def Fact (l : List UInt8) : PR → Prop
  | .ok e l1 => e.Wf ∧ l1 <:+ l ∧ l1.length < l.length ∧ e.size + 1 ≤ 2 * (l.length - l1.length)
  | .bad r => r <:+ l
theorem PCls.fact {out : Ws} {l : List UInt8} {r : PR} (h : PCls out l r) : out.Ok → Fact l r := by
  induction h with
  | done out l => exact fun ho => ⟨(ofS_wf ho).1, List.suffix_cons _ _, by simp, by rw [(ofS_wf ho).2]; simp only [List.length_cons]; omega⟩
  | bad1 _ h2 => exact fun _ => sgn_bad h2
  | @one out l b l1 res _ h2 _ _ ih =>
    intro ho
    obtain ⟨_, s1, s2⟩ := sgn_ok h2
    have k := ih (Ws.join_ok ho (rng_ok _ _))
    cases res with
    | ok e l' => exact ⟨k.1, k.2.1.trans s1, by have := k.2.2.1; omega, by have := k.2.2.2; omega⟩
    | bad r => exact List.IsSuffix.trans k s1
  | bad2 _ h2 h3 =>
    intro _
    obtain ⟨_, s1, _⟩ := sgn_ok h2
    exact (sgn_bad h3).trans ((List.suffix_cons _ _).trans s1)
  | less _ h2 _ _ =>
    intro _
    obtain ⟨_, s1, _⟩ := sgn_ok h2
    exact (List.suffix_cons _ _).trans s1
  | @range out l b l2 b' l3 res _ h2 h3 _ _ ih =>
    intro ho
    obtain ⟨_, s1, s2⟩ := sgn_ok h2
    obtain ⟨_, t1, t2⟩ := sgn_ok h3
    have k := ih (Ws.join_ok ho (rng_ok _ _))
    have q := t1.trans ((List.suffix_cons _ _).trans s1)
    simp only [List.length_cons] at s2
    cases res with
    | ok e l' => exact ⟨k.1, k.2.1.trans q, by have := k.2.2.1; omega, by have := k.2.2.2; omega⟩
    | bad r => exact List.IsSuffix.trans k q
theorem stars_fact : ∀ (l : List UInt8) (a e : Ex) (l' : List UInt8), stars a l = (e, l') → l' <:+ l ∧ (a.Wf → e.Wf) ∧ e.size = a.size + (l.length - l'.length)
  | [], a, e, l', h => by
    simp only [stars, Prod.mk.injEq] at h
    obtain ⟨rfl, rfl⟩ := h
    exact ⟨List.suffix_refl _, id, by simp⟩
  | c :: l, a, e, l', h => by
    unfold stars at h
    split at h
    · obtain ⟨h1, h2, h3⟩ := stars_fact l _ e l' h
      refine ⟨h1.trans (List.suffix_cons _ _), h2, ?_⟩
      have := h1.length_le
      rw [h3]; simp only [Ex.size, List.length_cons]; omega
    · simp only [Prod.mk.injEq] at h
      obtain ⟨rfl, rfl⟩ := h
      exact ⟨List.suffix_refl _, id, by simp⟩
theorem full_ne : Ws.full ≠ Ws.nil := by simp [Ws.full, Ws.nil]
theorem PX.fact {t : Tg} {l : List UInt8} {r : PR} (h : PX t l r) : Fact l r := by
  induction h with
  | dot l => exact ⟨⟨Ws.full_ok, full_ne⟩, List.suffix_cons _ _, by simp, by simp only [Ex.size, List.length_cons]; omega⟩
  | @cls l res hc =>
    have k := hc.fact Ws.nil_ok
    cases res with
    | ok e l' => exact ⟨k.1, k.2.1.trans (List.suffix_cons _ _), by have := k.2.2.1; simp only [List.length_cons]; omega, by have := k.2.2.2; simp only [List.length_cons]; omega⟩
    | bad r => exact List.IsSuffix.trans k (List.suffix_cons _ _)
  | eps l => exact ⟨trivial, ⟨[40, 41], rfl⟩, by simp only [List.length_cons]; omega, by simp only [Ex.size, List.length_cons]; omega⟩
  | round _ _ ih =>
    obtain ⟨k1, k2, k3, k4⟩ := ih
    simp only [List.length_cons] at k3 k4
    exact ⟨k1, (List.suffix_cons _ _).trans (k2.trans (List.suffix_cons _ _)), by simp only [List.length_cons]; omega, by simp only [List.length_cons]; omega⟩
  | roundNo _ _ _ ih => exact ih.2.1.trans (List.suffix_cons _ _)
  | roundBad _ _ ih => exact List.IsSuffix.trans ih (List.suffix_cons _ _)
  | sign _ _ _ h4 =>
    obtain ⟨s0, s1, s2⟩ := sgn_ok h4
    exact ⟨⟨rng_ok _ _, rng_ne s0⟩, s1, s2, by simp only [Ex.size]; omega⟩
  | signBad _ _ _ h4 => exact sgn_bad h4
  | rowBad _ ih => exact ih
  | rowOne _ h2 _ ih =>
    obtain ⟨k1, k2, k3, k4⟩ := ih
    obtain ⟨s1, s2, s3⟩ := stars_fact _ _ _ _ h2
    have := s1.length_le
    exact ⟨s2 k1, s1.trans k2, by omega, by omega⟩
  | rowMore _ h2 _ _ ih ih2 =>
    obtain ⟨k1, k2, k3, k4⟩ := ih
    obtain ⟨s1, s2, s3⟩ := stars_fact _ _ _ _ h2
    obtain ⟨q1, q2, q3, q4⟩ := ih2
    have := s1.length_le
    exact ⟨⟨s2 k1, q1⟩, q2.trans (s1.trans k2), by omega, by simp only [Ex.size]; omega⟩
  | rowMoreBad _ h2 _ _ ih ih2 =>
    obtain ⟨k1, k2, k3, k4⟩ := ih
    obtain ⟨s1, s2, s3⟩ := stars_fact _ _ _ _ h2
    exact List.IsSuffix.trans ih2 (s1.trans k2)
  | altBad _ ih => exact ih
  | altOne _ _ ih => exact ih
  | altMore _ _ ih ih2 =>
    obtain ⟨k1, k2, k3, k4⟩ := ih
    obtain ⟨q1, q2, q3, q4⟩ := ih2
    simp only [List.length_cons] at k3 k4
    exact ⟨⟨k1, q1⟩, q2.trans ((List.suffix_cons _ _).trans k2), by omega, by simp only [Ex.size]; omega⟩
  | altMoreBad _ _ ih ih2 => exact List.IsSuffix.trans ih2 ((List.suffix_cons _ _).trans ih.2.1)
end Go.Proofs.YtiegejbbjlhpdaaGreatDoor
/- Lemmas of mine. -/
namespace Go.Proofs.YtiegejbbjlhpdaaGreatDoor
def tl (s : ByteArray) (i : Nat) : List UInt8 := s.data.toList.drop i
theorem tl_cons (s : ByteArray) (i : Nat) (h : i < s.size) : tl s i = s[i] :: tl s (i + 1) := by
  unfold tl
  have h' : i < s.data.toList.length := by simpa using h
  rw [List.drop_eq_getElem_cons h']
  rfl
theorem tl_nil (s : ByteArray) (i : Nat) (h : s.size ≤ i) : tl s i = [] := List.drop_eq_nil_of_le (by simpa using h)
theorem tl_len (s : ByteArray) (i : Nat) : (tl s i).length = s.size - i := by
  unfold tl
  rw [List.length_drop]; simp
theorem tl_suffix {s : ByteArray} {i : Nat} {l : List UInt8} (h : l <:+ tl s i) : l = tl s (s.size - l.length) ∧ l.length ≤ s.size := by
  have h1 : l <:+ s.data.toList := h.trans (List.drop_suffix _ _)
  have h2 : s.data.toList.length = s.size := by simp
  have h3 := h1.length_le
  rw [h2] at h3
  refine ⟨?_, h3⟩
  unfold tl
  rw [List.suffix_iff_eq_drop.1 h1, h2]
  rw [List.length_drop, h2]
  congr 1
  omega
end Go.Proofs.YtiegejbbjlhpdaaGreatDoor
/- Lemmas of mine. -/
namespace Go.Proofs.YtiegejbbjlhpdaaGreatDoor
theorem notAt_or (c : UInt8) (l : List UInt8) : NotAt c l ∨ ∃ t, l = c :: t := by
  cases l with
  | nil => exact .inl (fun t e => by cases e)
  | cons d t =>
    by_cases h : d = c
    · exact .inr ⟨t, by rw [h]⟩
    · exact .inl (fun u e => by simp at e; exact h e.1)
theorem PCls.total : ∀ (n : Nat) (out : Ws) (l : List UInt8), l.length ≤ n → ∃ r, PCls out l r
  | n, out, l, hn => by
    rcases notAt_or 93 l with h93 | ⟨t, rfl⟩
    · cases hs : sgn l with
      | bad r => exact ⟨_, .bad1 h93 hs⟩
      | ok b l1 =>
        have h1 := (sgn_ok hs).2.2
        match n, hn with
        | 0, hn => omega
        | n + 1, hn =>
          rcases notAt_or 45 l1 with h45 | ⟨l2, rfl⟩
          · obtain ⟨r, hr⟩ := PCls.total n (out.join (rngW b b)) l1 (by omega)
            exact ⟨r, .one h93 hs h45 hr⟩
          · cases hs2 : sgn l2 with
            | bad r => exact ⟨_, .bad2 h93 hs hs2⟩
            | ok b' l3 =>
              have h2 := (sgn_ok hs2).2.2
              simp only [List.length_cons] at h1
              by_cases hb : b' < b
              · exact ⟨_, .less h93 hs hs2 hb⟩
              · obtain ⟨r, hr⟩ := PCls.total n (out.join (rngW b b')) l3 (by omega)
                exact ⟨r, .range h93 hs hs2 (by omega) hr⟩
    · exact ⟨_, .done out t⟩
theorem PX.total : ∀ (n : Nat) (l : List UInt8), l.length ≤ n → (∃ r, PX .atom l r) ∧ (∃ r, PX .row l r) ∧ ∃ r, PX .alt l r
  | n, l, hn => by
    have hA : ∃ r, PX .atom l r := by
      rcases notAt_or 46 l with h46 | ⟨t, rfl⟩
      · rcases notAt_or 91 l with h91 | ⟨t, rfl⟩
        · rcases notAt_or 40 l with h40 | ⟨t, rfl⟩
          · cases hs : sgn l with
            | bad r => exact ⟨_, .signBad h46 h91 h40 hs⟩
            | ok b l1 => exact ⟨_, .sign h46 h91 h40 hs⟩
          · rcases notAt_or 41 t with h41 | ⟨u, rfl⟩
            · match n, hn with
              | 0, hn => simp at hn
              | n + 1, hn =>
                obtain ⟨r, hr⟩ := (PX.total n t (by simpa using hn)).2.2
                cases r with
                | bad r => exact ⟨_, .roundBad h41 hr⟩
                | ok e l1 =>
                  rcases notAt_or 41 l1 with k | ⟨u, rfl⟩
                  · exact ⟨_, .roundNo h41 hr k⟩
                  · exact ⟨_, .round h41 hr⟩
            · exact ⟨_, .eps u⟩
        · obtain ⟨r, hr⟩ := PCls.total _ Ws.nil t (Nat.le_refl _)
          exact ⟨r, .cls hr⟩
      · exact ⟨_, .dot t⟩
    have hR : ∃ r, PX .row l r := by
      obtain ⟨r, hr⟩ := hA
      cases r with
      | bad r => exact ⟨_, .rowBad hr⟩
      | ok a l1 =>
        have f := hr.fact
        cases hs : stars a l1 with
        | mk p l2 =>
          have hs' := (stars_fact _ _ _ _ hs).1.length_le
          cases hb : begB l2 with
          | false => exact ⟨_, .rowOne hr hs hb⟩
          | true =>
            match n, hn with
            | 0, hn => have := f.2.2.1; omega
            | n + 1, hn =>
              obtain ⟨q, hq⟩ := (PX.total n l2 (by have := f.2.2.1; omega)).2.1
              cases q with
              | bad r => exact ⟨_, .rowMoreBad hr hs hb hq⟩
              | ok e l3 => exact ⟨_, .rowMore hr hs hb hq⟩
    refine ⟨hA, hR, ?_⟩
    obtain ⟨r, hr⟩ := hR
    cases r with
    | bad r => exact ⟨_, .altBad hr⟩
    | ok e l1 =>
      have f := hr.fact
      rcases notAt_or 124 l1 with h | ⟨t, rfl⟩
      · exact ⟨_, .altOne hr h⟩
      · match n, hn with
        | 0, hn => have := f.2.2.1; omega
        | n + 1, hn =>
          obtain ⟨q, hq⟩ := (PX.total n t (by have := f.2.2.1; simp only [List.length_cons] at this; omega)).2.2
          cases q with
          | bad r => exact ⟨_, .altMoreBad hr hq⟩
          | ok g l3 => exact ⟨_, .altMore hr hq⟩
end Go.Proofs.YtiegejbbjlhpdaaGreatDoor
/- Lemmas of mine. -/
namespace Go.Proofs.YtiegejbbjlhpdaaGreatDoor
def foldE (f : Ex → Ex → Ex) : List Ex → Ex
  | [] => .eps
  | [e] => e
  | e :: e' :: l => f e (foldE f (e' :: l))
theorem foldE_snoc (f : Ex → Ex → Ex) : ∀ (ps : List Ex) (p e : Ex), foldE f (ps ++ [p] ++ [e]) = foldE f (ps ++ [f p e])
  | [], p, e => rfl
  | [q], p, e => rfl
  | q :: q' :: ps, p, e => by
    have ih := foldE_snoc f (q' :: ps) p e
    show f q (foldE f (q' :: ps ++ [p] ++ [e])) = f q (foldE f (q' :: ps ++ [f p e]))
    rw [ih]
def RowSt (l0 : List UInt8) (ps : List Ex) (l : List UInt8) : Prop :=
  ((ps = [] ∨ begB l = true) → (∀ e l', PX .row l (.ok e l') → PX .row l0 (.ok (foldE .seq (ps ++ [e])) l')) ∧ (∀ r, PX .row l (.bad r) → PX .row l0 (.bad r))) ∧
  (ps ≠ [] → begB l = false → PX .row l0 (.ok (foldE .seq ps) l))
theorem RowSt.start (l : List UInt8) : RowSt l [] l := ⟨fun _ => ⟨fun _ _ h => h, fun _ h => h⟩, fun h => absurd rfl h⟩
theorem RowSt.step {l0 l l1 l2 : List UInt8} {ps : List Ex} {a p : Ex} (h : RowSt l0 ps l) (hc : ps = [] ∨ begB l = true) (ha : PX .atom l (.ok a l1)) (hs : stars a l1 = (p, l2)) : RowSt l0 (ps ++ [p]) l2 := by
  obtain ⟨h1, h2⟩ := h.1 hc
  refine ⟨fun hc2 => ?_, fun _ hb => h1 _ _ (PX.rowOne ha hs hb)⟩
  have hb : begB l2 = true := by
    rcases hc2 with e | e
    · simp at e
    · exact e
  refine ⟨fun e l' he => ?_, fun r hr => h2 _ (PX.rowMoreBad ha hs hb hr)⟩
  rw [foldE_snoc]
  exact h1 _ _ (PX.rowMore ha hs hb he)
theorem RowSt.bad {l0 l r : List UInt8} {ps : List Ex} (h : RowSt l0 ps l) (hc : ps = [] ∨ begB l = true) (ha : PX .atom l (.bad r)) : PX .row l0 (.bad r) := (h.1 hc).2 _ (PX.rowBad ha)
def AltSt (l0 : List UInt8) (ps : List Ex) (l : List UInt8) : Prop :=
  (∀ e l', PX .alt l (.ok e l') → PX .alt l0 (.ok (foldE .alt (ps ++ [e])) l')) ∧ (∀ r, PX .alt l (.bad r) → PX .alt l0 (.bad r))
theorem AltSt.start (l : List UInt8) : AltSt l [] l := ⟨fun _ _ h => h, fun _ h => h⟩
theorem AltSt.step {l0 l l1 : List UInt8} {ps : List Ex} {e : Ex} (h : AltSt l0 ps l) (hr : PX .row l (.ok e (124 :: l1))) : AltSt l0 (ps ++ [e]) l1 :=
  ⟨fun f l' hf => by rw [foldE_snoc]; exact h.1 _ _ (PX.altMore hr hf), fun r hb => h.2 _ (PX.altMoreBad hr hb)⟩
theorem AltSt.last {l0 l l1 : List UInt8} {ps : List Ex} {e : Ex} (h : AltSt l0 ps l) (hr : PX .row l (.ok e l1)) (hn : NotAt 124 l1) : PX .alt l0 (.ok (foldE .alt (ps ++ [e])) l1) := h.1 _ _ (PX.altOne hr hn)
theorem AltSt.bad {l0 l r : List UInt8} {ps : List Ex} (h : AltSt l0 ps l) (hr : PX .row l (.bad r)) : PX .alt l0 (.bad r) := h.2 _ (PX.altBad hr)
end Go.Proofs.YtiegejbbjlhpdaaGreatDoor
/- Lemmas of mine. -/
namespace Go.Proofs.YtiegejbbjlhpdaaGreatDoor
theorem sign_spec : ∀ n : Fin 256, specB n.1 = true → hexV (hexD' (n.1 / 16)) = some (n.1 / 16) ∧ hexV (hexD' (n.1 % 16)) = some (n.1 % 16) := by decide +kernel
theorem sign_self : ∀ n : Fin 256, specB n.1 = false → UInt8.ofNat n.1 ≠ 92 ∧ ownB (UInt8.ofNat n.1) = true ∧ (UInt8.ofNat n.1).toNat = n.1 := by decide +kernel
theorem sgn_sign {n : Nat} (h : n < 256) (x : List UInt8) : sgn (signL n ++ x) = .ok n x := by
  unfold signL
  by_cases hs : specB n = true
  · obtain ⟨h1, h2⟩ := sign_spec ⟨n, h⟩ hs
    rw [if_pos hs]
    show sgn (92 :: _ :: _ :: x) = _
    rw [sgn_92_yes x h1 h2]
    simp only
    congr 1; omega
  · obtain ⟨h1, h2, h3⟩ := sign_self ⟨n, h⟩ (by simpa using hs)
    rw [if_neg hs]
    show sgn (_ :: x) = _
    rw [sgn_own _ _ h1, if_pos h2, h3]
theorem beg_sign {n : Nat} (h : n < 256) (x : List UInt8) : begB (signL n ++ x) = true := by
  unfold signL
  by_cases hs : specB n = true
  · rw [if_pos hs]; rfl
  · obtain ⟨h1, h2, h3⟩ := sign_self ⟨n, h⟩ (by simpa using hs)
    rw [if_neg hs]
    show begB (_ :: x) = true
    simp only [begB]
    rw [h2]; simp
theorem notAt_cons {c d : UInt8} {l : List UInt8} (h : d ≠ c) : NotAt c (d :: l) := by
  intro t e
  simp at e
  exact h e.1
theorem notAt_nil (c : UInt8) : NotAt c [] := by intro t e; cases e
theorem sign_notAt {n : Nat} (h : n < 256) (x : List UInt8) : NotAt 93 (signL n ++ x) ∧ NotAt 45 (signL n ++ x) ∧ NotAt 46 (signL n ++ x) ∧ NotAt 91 (signL n ++ x) ∧ NotAt 40 (signL n ++ x) ∧ NotAt 41 (signL n ++ x) := by
  obtain ⟨c, t, hc, h1, _, _, h4, h5, h6, h7⟩ := sign_start ⟨n, h⟩
  have h45 := (sign_head n h x).1
  have hc' : signL n = c :: t := hc
  rw [hc'] at h45 ⊢
  simp at h45
  exact ⟨notAt_cons h4, notAt_cons h45, notAt_cons h7, notAt_cons h6, notAt_cons h5, notAt_cons h1⟩
theorem textOf_notAt (l : List Nat) (hl : ∀ x ∈ l, x < 256) (x : List UInt8) : NotAt 45 (textOf l ++ 93 :: x) := by
  cases l with
  | nil => exact notAt_cons (by decide)
  | cons y t =>
    have h := textOf_head (y :: t) hl
    have hne : textOf (y :: t) ≠ [] := by
      rw [textOf_cons]
      intro e
      have h1 := (List.append_eq_nil_iff.1 e).1
      have h2 := signL_length y
      unfold segL at h1
      split at h1
      · rw [(List.append_eq_nil_iff.1 h1).1] at h2; simp at h2
      · split at h1
        · rw [(List.append_eq_nil_iff.1 h1).1] at h2; simp at h2
        · rw [h1] at h2; simp at h2
    cases hT : textOf (y :: t) with
    | nil => exact absurd hT hne
    | cons c u => rw [hT] at h; exact notAt_cons (by simpa using h)
theorem has_rng {a b : Nat} (hb : b < 256) (m : Nat) (hm : m < 256) : (rngW a b).has m = (decide (a ≤ m) && decide (m ≤ b)) := by
  unfold rngW
  rw [has_ofN _ (by intro x hx; simp at hx; omega) m hm]
  rw [Bool.eq_iff_iff]
  simp
  omega
theorem join_seg {out : Ws} (ho : out.Ok) (y r : Nat) (l : List Nat) (hr : r ≤ l.length) (hl : ∀ x ∈ y :: l, x < 256) (ht : l.take r = List.range' (y + 1) r) : (out.join (rngW y (y + r))).join (ofN (l.drop r)) = out.join (ofN (y :: l)) := by
  have hyr : y + r < 256 := by
    cases r with
    | zero => exact hl y (by simp)
    | succ k =>
      have : y + 1 + k ∈ l.take (k + 1) := by rw [ht]; simp
      have := hl _ (List.mem_cons_of_mem _ (List.mem_of_mem_take this))
      omega
  refine Ws.has_ext (Ws.join_ok (Ws.join_ok ho (rng_ok _ _)) (ofN_ok _)) (Ws.join_ok ho (ofN_ok _)) fun m hm => ?_
  rw [Ws.has_join, Ws.has_join, Ws.has_join, has_rng hyr m hm, has_ofN _ (fun x hx => hl x (List.mem_cons_of_mem _ (List.mem_of_mem_drop hx))) m hm, has_ofN _ hl m hm]
  have key : (y :: l).contains m = ((decide (y ≤ m) && decide (m ≤ y + r)) || (l.drop r).contains m) := by
    have e : l = List.range' (y + 1) r ++ l.drop r := by rw [← ht, List.take_append_drop]
    rw [Bool.eq_iff_iff]
    simp only [List.contains_eq_mem, decide_eq_true_eq, Bool.or_eq_true, Bool.and_eq_true, List.mem_cons]
    conv => lhs; rw [e]
    simp only [List.mem_append, List.mem_range'_1]
    constructor
    · rintro (h | h | h)
      · exact .inl ⟨by omega, by omega⟩
      · exact .inl ⟨by omega, by omega⟩
      · exact .inr h
    · rintro (⟨h1, h2⟩ | h)
      · by_cases h3 : m = y
        · exact .inl h3
        · exact .inr (.inl ⟨by omega, by omega⟩)
      · exact .inr (.inr h)
  rw [key, Bool.or_assoc]
theorem cls_text : ∀ (k : Nat) (l : List Nat) (out : Ws) (x : List UInt8), l.length ≤ k → out.Ok → (∀ y ∈ l, y < 256) → PCls out (textOf l ++ 93 :: x) (.ok (ofS (out.join (ofN l))) x)
  | k, [], out, x, _, ho, _ => by
    have e : out.join (ofN []) = out := by
      show out.join Ws.nil = out
      simp [Ws.join, Ws.nil]
    rw [textOf_nil, e]
    exact PCls.done out x
  | 0, y :: l, _, _, h, _, _ => by simp at h
  | k + 1, y :: l, out, x, h, ho, hl => by
    have hr := runFrom_le y l
    have ht := runFrom_take y l
    have hy : y < 256 := hl y (by simp)
    have hd : ∀ z ∈ l.drop (runFrom y l), z < 256 := fun z hz => hl z (List.mem_cons_of_mem _ (List.mem_of_mem_drop hz))
    have hseg := join_seg ho y (runFrom y l) l hr hl ht
    have hlt : y + runFrom y l < 256 := by
      generalize runFrom y l = r at *
      cases r with
      | zero => exact hy
      | succ k =>
        have : y + 1 + k ∈ l.take (k + 1) := by rw [ht]; simp
        have := hl _ (List.mem_cons_of_mem _ (List.mem_of_mem_take this))
        omega
    have ih := cls_text k (l.drop (runFrom y l)) (out.join (rngW y (y + runFrom y l))) x (by simp only [List.length_drop, List.length_cons] at h ⊢; omega) (Ws.join_ok ho (rng_ok _ _)) hd
    rw [hseg] at ih
    have hnot := textOf_notAt (l.drop (runFrom y l)) hd x
    rw [textOf_cons]
    generalize runFrom y l = r at *
    unfold segL
    by_cases h3 : 3 ≤ 1 + r
    · rw [if_pos h3]
      have e1 : y + (1 + r) - 1 = y + r := by omega
      rw [e1]
      have e2 : signL y ++ 45 :: signL (y + r) ++ textOf (l.drop r) ++ 93 :: x = signL y ++ (45 :: (signL (y + r) ++ (textOf (l.drop r) ++ 93 :: x))) := by simp
      rw [e2]
      exact PCls.range (sign_notAt hy _).1 (sgn_sign hy _) (sgn_sign hlt _) (by omega) ih
    · rw [if_neg h3]
      by_cases h2 : 1 + r = 2
      · rw [if_pos h2]
        have hr1 : r = 1 := by omega
        subst hr1
        have e2 : signL y ++ signL (y + 1) ++ textOf (l.drop 1) ++ 93 :: x = signL y ++ (signL (y + 1) ++ (textOf (l.drop 1) ++ 93 :: x)) := by simp
        rw [e2]
        have hj : (out.join (rngW y y)).join (rngW (y + 1) (y + 1)) = out.join (rngW y (y + 1)) := by
          refine Ws.has_ext (Ws.join_ok (Ws.join_ok ho (rng_ok _ _)) (rng_ok _ _)) (Ws.join_ok ho (rng_ok _ _)) fun m hm => ?_
          rw [Ws.has_join, Ws.has_join, Ws.has_join, has_rng hy m hm, has_rng hlt m hm, has_rng hlt m hm, Bool.or_assoc]
          congr 1
          rw [Bool.eq_iff_iff]
          simp
          omega
        rw [← hj] at ih
        refine PCls.one (sign_notAt hy _).1 (sgn_sign hy _) (sign_notAt hlt _).2.1 ?_
        exact PCls.one (sign_notAt hlt _).1 (sgn_sign hlt _) hnot ih
      · rw [if_neg h2]
        have hr0 : r = 0 := by omega
        subst hr0
        rw [List.append_assoc]
        exact PCls.one (sign_notAt hy _).1 (sgn_sign hy _) hnot ih
theorem ofS_ne {s : Ws} (h : s ≠ Ws.nil) : ofS s = .cls s := by
  unfold ofS
  rw [if_neg (fun e => h (sameW_iff.1 e))]
theorem cls_read {s : Ws} (hs : s.Ok) (h : s ≠ Ws.nil) (x : List UInt8) : PX .atom (textW s ++ x) (.ok (.cls s) x) := by
  unfold textW
  split
  · rename_i h1
    rw [(full_of_length hs).1 h1]
    exact PX.dot x
  · split
    · rename_i h1
      obtain ⟨n, hn⟩ := List.length_eq_one_iff.1 h1
      have hlt : n < 256 := bytesN_lt s n (by rw [hn]; simp)
      have e : s = rngW n n := by
        rw [← of_bytesN hs, hn]
        show _ = ofN (List.range' n (n + 1 - n))
        rw [show n + 1 - n = 1 from by omega]; rfl
      rw [hn]
      obtain ⟨_, _, k1, k2, k3, _⟩ := sign_notAt hlt x
      have := PX.sign k1 k2 k3 (sgn_sign hlt x)
      rw [← e] at this
      exact this
    · have := cls_text _ (bytesN s) Ws.nil x (Nat.le_refl _) Ws.nil_ok (bytesN_lt s)
      rw [of_bytesN hs, show Ws.nil.join s = s from by simp [Ws.join, Ws.nil], ofS_ne h] at this
      have e : 91 :: (textOf (bytesN s) ++ [93]) ++ x = 91 :: (textOf (bytesN s) ++ 93 :: x) := by simp
      rw [e]
      exact PX.cls this
end Go.Proofs.YtiegejbbjlhpdaaGreatDoor
/- Lemmas of mine. -/
namespace Go.Proofs.YtiegejbbjlhpdaaGreatDoor
theorem stars_no {x : List UInt8} (h : NoStar x) (e : Ex) : stars e x = (e, x) := by
  cases x with
  | nil => rfl
  | cons c t =>
    unfold stars
    rw [if_neg (fun hc => h t (by rw [hc]))]
theorem beg_term {x : List UInt8} (h : Term1 x) : begB x = false := by
  rcases h with rfl | ⟨t, rfl⟩ | ⟨t, rfl⟩
  · rfl
  · show (decide ((41 : UInt8) = 46) || decide ((41 : UInt8) = 91) || decide ((41 : UInt8) = 40) || decide ((41 : UInt8) = 92) || ownB 41) = false
    decide
  · show (decide ((124 : UInt8) = 46) || decide ((124 : UInt8) = 91) || decide ((124 : UInt8) = 40) || decide ((124 : UInt8) = 92) || ownB 124) = false
    decide
def ItemR (e : Ex) : Prop := ∀ x, ∃ a l1, PX .atom (e.item ++ x) (.ok a l1) ∧ stars a l1 = stars e x
def PartR (e : Ex) : Prop := ∀ x, Term1 x → PX .row (e.part ++ x) (.ok e x)
def TextR (e : Ex) : Prop := ∀ x, Term0 x → PX .alt (e.text ++ x) (.ok e x)
theorem part_of_item {e : Ex} (h : ItemR e) (hp : e.part = e.item) : PartR e := by
  intro x hx
  obtain ⟨a, l1, h1, h2⟩ := h x
  rw [hp]
  exact PX.rowOne h1 (by rw [h2]; exact stars_no hx.noStar e) (beg_term hx)
theorem text_of_part {e : Ex} (h : PartR e) (ha : e.isAlt = false) : TextR e := by
  intro x hx
  rw [← part_text ha]
  refine PX.altOne (h x hx.one) ?_
  rcases hx with rfl | ⟨t, rfl⟩
  · exact notAt_nil _
  · exact notAt_cons (by decide)
theorem item_of_text {e : Ex} (we : e.Wf) (h : TextR e) (hi : e.item = 40 :: (e.text ++ [41])) : ItemR e := by
  intro x
  refine ⟨e, x, ?_, rfl⟩
  rw [hi]
  have e1 : 40 :: (e.text ++ [41]) ++ x = 40 :: (e.text ++ 41 :: x) := by simp
  rw [e1]
  obtain ⟨c, t, hc, hs⟩ := text_start e we
  exact PX.round (by rw [hc]; exact notAt_cons hs.1) (h _ (.inr ⟨x, rfl⟩))
theorem beg_item {e : Ex} (we : e.Wf) (x : List UInt8) : begB (e.item ++ x) = true := by
  induction e generalizing x with
  | empty => rfl
  | eps => rfl
  | cls s =>
    show begB (textW s ++ x) = true
    unfold textW
    split
    · rfl
    · split
      · rename_i h1
        obtain ⟨n, hn⟩ := List.length_eq_one_iff.1 h1
        rw [hn]
        exact beg_sign (bytesN_lt s n (by rw [hn]; simp)) x
      · rfl
  | seq a b _ _ => rfl
  | alt a b _ _ => rfl
  | star a ih => rw [item_star, List.append_assoc]; exact ih we _
theorem beg_part {e : Ex} (we : e.Wf) (x : List UInt8) : begB (e.part ++ x) = true := by
  cases e with
  | seq a b => rw [part_seq, List.append_assoc]; exact beg_item we.1 _
  | alt a b => rfl
  | empty => exact beg_item (e := .empty) we x
  | eps => exact beg_item (e := .eps) we x
  | cls s => exact beg_item (e := .cls s) we x
  | star a => exact beg_item (e := .star a) we x
theorem read_back (e : Ex) : e.Wf → ItemR e ∧ PartR e ∧ TextR e := by
  induction e with
  | empty =>
    intro we
    have h1 : ItemR .empty := fun x => ⟨.empty, x, PX.cls (PCls.done Ws.nil x), rfl⟩
    have h2 := part_of_item h1 rfl
    exact ⟨h1, h2, text_of_part h2 rfl⟩
  | eps =>
    intro we
    have h1 : ItemR .eps := fun x => ⟨.eps, x, PX.eps x, rfl⟩
    have h2 := part_of_item h1 rfl
    exact ⟨h1, h2, text_of_part h2 rfl⟩
  | cls s =>
    intro we
    have h1 : ItemR (.cls s) := fun x => ⟨.cls s, x, cls_read we.1 we.2 x, rfl⟩
    have h2 := part_of_item h1 rfl
    exact ⟨h1, h2, text_of_part h2 rfl⟩
  | star a ih =>
    intro we
    have h1 : ItemR (.star a) := fun x => by
      obtain ⟨b, l1, k1, k2⟩ := (ih we).1 (42 :: x)
      refine ⟨b, l1, ?_, ?_⟩
      · rw [item_star, List.append_assoc]; exact k1
      · rw [k2]; rfl
    have h2 := part_of_item h1 rfl
    exact ⟨h1, h2, text_of_part h2 rfl⟩
  | seq a b iha ihb =>
    intro we
    have h2 : PartR (.seq a b) := fun x hx => by
      obtain ⟨p, l1, k1, k2⟩ := (iha we.1).1 (b.part ++ x)
      rw [part_seq, List.append_assoc]
      exact PX.rowMore k1 (by rw [k2]; exact stars_no (noStar_part we.2 x) a) (beg_part we.2 x) ((ihb we.2).2.1 x hx)
    have h3 := text_of_part h2 rfl
    exact ⟨item_of_text we h3 (item_seq a b), h2, h3⟩
  | alt a b iha ihb =>
    intro we
    have h3 : TextR (.alt a b) := fun x hx => by
      rw [text_alt, List.append_assoc]
      exact PX.altMore ((iha we.1).2.1 _ (.inr (.inr ⟨_, rfl⟩))) ((ihb we.2).2.2 x hx)
    have h1 := item_of_text we h3 (item_alt a b)
    exact ⟨h1, part_of_item h1 rfl, h3⟩
theorem text_read {e : Ex} (we : e.Wf) : PX .alt e.text (.ok e []) := by
  have := (read_back e we).2.2 [] (.inl rfl)
  rwa [List.append_nil] at this
open Go.RowKit
inductive RD where
  | ok (e : Ex)
  | no (at_ err : Nat)
def topR (n : Nat) (res : PR) : RD := if 65536 < n then .no 0 3 else match res with
  | .bad r => .no (n - r.length) 2
  | .ok e l => if l = [] then (if e.size ≤ 2000 then .ok e else .no 0 4) else .no (n - l.length) 2
def zeroRe : Value := .agg #[.int .u8 0, .int .u64 0, .int .u64 0, .int .u64 0, .int .u64 0, .slice none 0 0]
def RdPost (w : World) (rd : RD) (e : Ending) (w' : World) : Prop := Below w.heap.size w w' ∧ match rd with
  | .ok ex => ∃ v, e = .returned (.tuple #[v, .int .i64 0, .int .i64 0]) ∧ ReAt (New w.heap.size) w' v ex.rx
  | .no k err => e = .returned (.tuple #[zeroRe, .int .i64 (k : Int), .int .i64 (err : Int)])
open Go.RowKit
abbrev zR : Obj := .cells #[.int .u8 0, .int .u64 0, .int .u64 0, .int .u64 0, .int .u64 0, .slice none 0 0] 27 (0, 0)
def NoZ (w : World) (b : Nat) : Prop := w.heap[b]? ≠ some zR
theorem noz_cell {w : World} {b off k : Nat} (h : w.cell? ⟨b, off, none⟩ = some (.int .u8 (k : Int))) (hk : k ≠ 0) : NoZ w b := by
  intro e
  rw [Lib.cell_of_heap e] at h
  match off with
  | 0 => simp at h; omega
  | 1 => simp at h
  | 2 => simp at h
  | 3 => simp at h
  | 4 => simp at h
  | 5 => simp at h
  | n + 6 => simp at h
theorem rx_some (e : Ex) : ∃ k s ks, e.rx = .node k s ks ∧ k ≠ 0 := by cases e <;> exact ⟨_, _, _, rfl, by decide⟩
theorem noz_node {ok : Nat → Prop} {w : World} {b off : Nat} {e : Ex} (h : NodeAt ok w b off e.rx) : NoZ w b := by
  obtain ⟨k, s, ks, he, hk⟩ := rx_some e
  rw [he] at h
  unfold NodeAt at h
  exact noz_cell h.2.2.1.1 hk
theorem node_noz {ok : Nat → Prop} {w : World} : ∀ (e : Ex) {b off : Nat}, NodeAt ok w b off e.rx → NodeAt (fun b => ok b ∧ NoZ w b) w b off e.rx
  | .empty, b, off, h => by
    unfold Ex.rx NodeAt at h ⊢
    obtain ⟨h0, hs, hc, al, cap, c5, h1, h2, h3⟩ := h
    exact ⟨h0, hs, hc, al, cap, c5, h1, h2, .inl rfl⟩
  | .eps, b, off, h => by
    unfold Ex.rx NodeAt at h ⊢
    obtain ⟨h0, hs, hc, al, cap, c5, h1, h2, h3⟩ := h
    exact ⟨h0, hs, hc, al, cap, c5, h1, h2, .inl rfl⟩
  | .cls s, b, off, h => by
    unfold Ex.rx NodeAt at h ⊢
    obtain ⟨h0, hs, hc, al, cap, c5, h1, h2, h3⟩ := h
    exact ⟨h0, hs, hc, al, cap, c5, h1, h2, .inl rfl⟩
  | .seq x y, b, off, h => by
    unfold Ex.rx NodeAt at h ⊢
    obtain ⟨h0, hs, hc, al, cap, c5, h1, h2, h3⟩ := h
    refine ⟨h0, hs, hc, al, cap, c5, h1, h2, ?_⟩
    rcases h3 with h3 | ⟨b', off', e1, e2, e3, e4⟩
    · cases h3
    · simp only [NodesAt] at e4 ⊢
      exact .inr ⟨b', off', e1, e2, ⟨e3, noz_node e4.1⟩, node_noz x e4.1, node_noz y e4.2.1, trivial⟩
  | .alt x y, b, off, h => by
    unfold Ex.rx NodeAt at h ⊢
    obtain ⟨h0, hs, hc, al, cap, c5, h1, h2, h3⟩ := h
    refine ⟨h0, hs, hc, al, cap, c5, h1, h2, ?_⟩
    rcases h3 with h3 | ⟨b', off', e1, e2, e3, e4⟩
    · cases h3
    · simp only [NodesAt] at e4 ⊢
      exact .inr ⟨b', off', e1, e2, ⟨e3, noz_node e4.1⟩, node_noz x e4.1, node_noz y e4.2.1, trivial⟩
  | .star x, b, off, h => by
    unfold Ex.rx NodeAt at h ⊢
    obtain ⟨h0, hs, hc, al, cap, c5, h1, h2, h3⟩ := h
    refine ⟨h0, hs, hc, al, cap, c5, h1, h2, ?_⟩
    rcases h3 with h3 | ⟨b', off', e1, e2, e3, e4⟩
    · cases h3
    · simp only [NodesAt] at e4 ⊢
      exact .inr ⟨b', off', e1, e2, ⟨e3, noz_node e4.1⟩, node_noz x e4.1, trivial⟩
theorem re_noz {ok : Nat → Prop} {w : World} {v : Value} (e : Ex) (h : ReAt ok w v e.rx) : ReAt (fun b => ok b ∧ NoZ w b) w v e.rx := by
  cases e with
  | empty => exact leaf_any _ h
  | eps => exact leaf_any _ h
  | cls s => exact leaf_any _ h
  | seq x y =>
    unfold Ex.rx ReAt RowAt at h ⊢
    obtain ⟨h0, hs, al, cap, e, h1, h2, h3⟩ := h
    refine ⟨h0, hs, al, cap, e, h1, h2, ?_⟩
    rcases h3 with h3 | ⟨b', off', e1, e2, e3, e4⟩
    · cases h3
    · simp only [NodesAt] at e4 ⊢
      exact .inr ⟨b', off', e1, e2, ⟨e3, noz_node e4.1⟩, node_noz x e4.1, node_noz y e4.2.1, trivial⟩
  | alt x y =>
    unfold Ex.rx ReAt RowAt at h ⊢
    obtain ⟨h0, hs, al, cap, e, h1, h2, h3⟩ := h
    refine ⟨h0, hs, al, cap, e, h1, h2, ?_⟩
    rcases h3 with h3 | ⟨b', off', e1, e2, e3, e4⟩
    · cases h3
    · simp only [NodesAt] at e4 ⊢
      exact .inr ⟨b', off', e1, e2, ⟨e3, noz_node e4.1⟩, node_noz x e4.1, node_noz y e4.2.1, trivial⟩
  | star x =>
    unfold Ex.rx ReAt RowAt at h ⊢
    obtain ⟨h0, hs, al, cap, e, h1, h2, h3⟩ := h
    refine ⟨h0, hs, al, cap, e, h1, h2, ?_⟩
    rcases h3 with h3 | ⟨b', off', e1, e2, e3, e4⟩
    · cases h3
    · simp only [NodesAt] at e4 ⊢
      exact .inr ⟨b', off', e1, e2, ⟨e3, noz_node e4.1⟩, node_noz x e4.1, trivial⟩
theorem put_ex {ok : Nat → Prop} {W : World} {g : Nat} {e : Ex} {y0 y1 y2 y3 y4 y5 : Value} (hz : W.heap[g]? = some zR) (h : ReAt ok W (.agg #[y0, y1, y2, y3, y4, y5]) e.rx) :
    (putW W g y0 y1 y2 y3 y4 y5).heap[g]? = some (.cells #[y0, y1, y2, y3, y4, y5] 27) ∧ ReAt ok (putW W g y0 y1 y2 y3 y4 y5) (.agg #[y0, y1, y2, y3, y4, y5]) e.rx := by
  refine ⟨putR hz _ _ _ _ _ _, (re_noz e h).go ⟨by simp [putW, World.setCell], fun b _ hb => ⟨hb.1, ?_⟩⟩⟩
  have hne : b ≠ g := fun e => hb.2 (by rw [e]; exact hz)
  simp [putW, World.setCell, Array.getElem?_modify, Ne.symm hne]
def okN (ok : Nat → Prop) (n b : Nat) : Prop := ok b ∨ n ≤ b
def ExV (ok : Nat → Prop) (e : Ex) (x : Value) (w : World) : Prop := ∃ (p0 p1 p2 p3 p4 : Int) (pl : Option Addr) (pn pc : Nat), x = .agg #[.int .u8 p0, .int .u64 p1, .int .u64 p2, .int .u64 p3, .int .u64 p4, .slice pl pn pc] ∧ ReAt ok w (.agg #[.int .u8 p0, .int .u64 p1, .int .u64 p2, .int .u64 p3, .int .u64 p4, .slice pl pn pc]) e.rx
theorem ExV.of {ok ok' : Nat → Prop} {w : World} {v : Value} {e : Ex} (h : ReAt ok w v e.rx) (hi : ∀ b, b < w.heap.size → ok b → ok' b) : ExV ok' e v w := by
  obtain ⟨p0, p1, p2, p3, p4, pl, pn, pc, rfl⟩ := cells_re h
  exact ⟨p0, p1, p2, p3, p4, pl, pn, pc, rfl, h.imp hi⟩
def SP.ex (ok : Nat → Prop) (e : Ex) : SP := ⟨ExV ok e, fun _ _ _ ⟨p0, p1, p2, p3, p4, pl, pn, pc, h1, h2⟩ hb => ⟨p0, p1, p2, p3, p4, pl, pn, pc, h1, h2.below hb⟩⟩
def ExPost (ok : Nat → Prop) (e : Ex) (w : World) (x : Ending) (w' : World) : Prop := ∃ v, x = .returned v ∧ ReAt (okN ok w.heap.size) w' v e.rx ∧ Below w.heap.size w w'
theorem ret_ex {fn : Func} {a : Act} {ok : Nat → Prop} {w W : World} {k g : Nat} {e : Ex} {y0 y1 y2 y3 y4 y5 : Value} (hz : W.heap[g]? = some zR) (h : ReAt (okN ok w.heap.size) W (.agg #[y0, y1, y2, y3, y4, y5]) e.rx) (hb : Below w.heap.size w W) (hg : w.heap.size ≤ g)
    (hres : fn.results = #[.cell k 27]) (hslot : a.tmps.getD k undef = .pointer (some ⟨g, 0, none⟩)) (hd : a.defers = []) : bodyPost Tryz.prog fn (ExPost ok e w) .ret a (putW W g y0 y1 y2 y3 y4 y5) :=
  ret_re (put_ex hz h).1 hres hslot hd ⟨_, rfl, (put_ex hz h).2, putB hb hg _ _ _ _ _ _⟩
def Bn1 (w W : World) (X : Obj) : Prop := W.heap[w.heap.size]? = some X ∧ W.heap[w.heap.size + 1]? = some zR ∧ Below w.heap.size w W
theorem Bn1.go {w W W' : World} {X : Obj} (h : Bn1 w W X) (hb : Below W.heap.size W W') : Bn1 w W' X :=
  ⟨(hb.block _ (Array.getElem?_eq_some_iff.1 h.1).1).trans h.1, (hb.block _ (Array.getElem?_eq_some_iff.1 h.2.1).1).trans h.2.1, h.2.2.trans (hb.mono h.2.2.size)⟩
theorem Bn1.new (w : World) (X : Obj) : Bn1 w ((w.alloc X).alloc zR) X :=
  ⟨(Below.heap_alloc _ _ _ (by simp)).trans (blk_new w _), blk_at _ _ (by simp), ((Below.refl _ w).alloc (Nat.le_refl _) _).alloc (by simp) _⟩
theorem al3 (w : World) (X Y Z : Obj) : Below w.heap.size w (((w.alloc X).alloc Y).alloc Z) := (((Below.refl _ w).alloc (Nat.le_refl _) _).alloc (by simp) _).alloc (by simp; omega) _
theorem al2 (w : World) (X Y : Obj) : Below w.heap.size w ((w.alloc X).alloc Y) := ((Below.refl _ w).alloc (Nat.le_refl _) _).alloc (by simp) _
theorem six_keep {w x : World} {b off : Nat} {x0 x1 x2 x3 x4 x5 : Value} (hb : b < w.heap.size) (h : w.cell? ⟨b, off, none⟩ = some x0 ∧ w.cell? ⟨b, off + 1, none⟩ = some x1 ∧ w.cell? ⟨b, off + 2, none⟩ = some x2 ∧ w.cell? ⟨b, off + 3, none⟩ = some x3 ∧ w.cell? ⟨b, off + 4, none⟩ = some x4 ∧ w.cell? ⟨b, off + 5, none⟩ = some x5) (hx : Below w.heap.size w x) :
    x.cell? ⟨b, off, none⟩ = some x0 ∧ x.cell? ⟨b, off + 1, none⟩ = some x1 ∧ x.cell? ⟨b, off + 2, none⟩ = some x2 ∧ x.cell? ⟨b, off + 3, none⟩ = some x3 ∧ x.cell? ⟨b, off + 4, none⟩ = some x4 ∧ x.cell? ⟨b, off + 5, none⟩ = some x5 := by
  obtain ⟨d0, d1, d2, d3, d4, d5⟩ := h
  have e := fun o => hx.cell (p := ⟨b, o, none⟩) hb
  exact ⟨by rw [e]; exact d0, by rw [e]; exact d1, by rw [e]; exact d2, by rw [e]; exact d3, by rw [e]; exact d4, by rw [e]; exact d5⟩
open Go.RowKit
theorem part_same {e : Ex} {k : Nat} {s : Ws} {ks : List Rx} (h : e.rx = .node k s ks) (hk : k = 4 ∨ k = 5) : ∃ a b : Ex, ks = [a.rx, b.rx] ∧ partE k e = partE k a ++ partE k b ∧ a.size + b.size < e.size ∧ partL k [a, b] = partE k e := by
  cases e with
  | empty => simp only [Ex.rx] at h; injection h with h1; omega
  | eps => simp only [Ex.rx] at h; injection h with h1; omega
  | cls s => simp only [Ex.rx] at h; injection h with h1; omega
  | star a => simp only [Ex.rx] at h; injection h with h1; omega
  | seq a b =>
    simp only [Ex.rx] at h
    injection h with h1 h2 h3
    subst h1
    exact ⟨a, b, h3.symm, by simp [partE], by simp only [Ex.size]; omega, by simp [partL, partE]⟩
  | alt a b =>
    simp only [Ex.rx] at h
    injection h with h1 h2 h3
    subst h1
    exact ⟨a, b, h3.symm, by simp [partE], by simp only [Ex.size]; omega, by simp [partL, partE]⟩
theorem part_other {e : Ex} {k k' : Nat} {s : Ws} {ks : List Rx} (h : e.rx = .node k' s ks) (hk : k' ≠ k) : partE k e = [e] := by
  cases e with
  | empty => rfl
  | eps => rfl
  | cls s => rfl
  | star a => rfl
  | seq a b =>
    simp only [Ex.rx] at h
    injection h with h1
    unfold partE
    rw [if_neg (by omega)]
  | alt a b =>
    simp only [Ex.rx] at h
    injection h with h1
    unfold partE
    rw [if_neg (by omega)]
theorem partL_take {k : Nat} {l : List Ex} {i : Nat} (h : i < l.length) : partL k (l.take (i + 1)) = partL k (l.take i) ++ partE k l[i] := by
  rw [List.take_succ_eq_append_getElem h, partL_append]
  simp [partL]
theorem part_take_le (k : Nat) (done l : List Ex) (i : Nat) : (done ++ partL k (l.take i)).length ≤ (done ++ partL k l).length := by
  have h := partL_append k (l.take i) (l.drop i)
  rw [List.take_append_drop] at h
  rw [h]
  simp only [List.length_append]
  omega
def Ex.sum (l : List Ex) : Nat := (l.map Ex.size).sum
theorem sum_get {l : List Ex} {i : Nat} (h : i < l.length) : l[i].size ≤ Ex.sum l := by
  induction l generalizing i with
  | nil => simp at h
  | cons e l ih =>
    cases i with
    | zero => simp [Ex.sum]
    | succ i => have := ih (i := i) (by simpa using h); simp [Ex.sum] at this ⊢; omega
theorem row_re {B : Nat} {w0 w : World} {v : Value} {r : Rx} (h : ReAt (Lo B) w0 v r) (hB : B ≤ w0.heap.size) (hb : Below B w0 w) : ReAt (Lo B) w v r := h.go (kept_lo hB hb)
structure Tell (M B : Nat) (w0 : World) (fn : Nat) (cs : Array Value) (I : List Ex → World → Prop) (Pr : Ex → Prop) : Prop where
  enter : ∀ v w, Sem.run Tryz.prog (callFunc fn (#[v] ++ cs)) w = .ok (.enter fn (#[v] ++ cs)) w
  keep : ∀ done w w', I done w → Below w.heap.size w w' → I done w'
  step : ∀ done e v w, done.length < M → I done w → Below B w0 w → Pr e → ReAt (Lo B) w v e.rx → Calls Tryz.prog fn (#[v] ++ cs) w fun x w' => x = .returned (.tuple #[]) ∧ I (done ++ [e]) w' ∧ Below B w w'
def eachInv (k B : Nat) (I : List Ex → World → Prop) (done l : List Ex) (w : World) (y : Value) (wr : World) : Prop := ∃ i : Nat, i ≤ l.length ∧ y = .int .i64 i ∧ I (done ++ partL k (l.take i)) wr ∧ Below B w wr
set_option maxRecDepth 100000 in
set_option maxHeartbeats 8000000 in
theorem each_any {M k B : Nat} {w0 : World} {fn : Nat} {cs : Array Value} {I : List Ex → World → Prop} {Pr : Ex → Prop} (hk : k = 4 ∨ k = 5) (hB : B ≤ w0.heap.size) (hT : Tell M B w0 fn cs I Pr) (N : Nat) :
    ∀ (l : List Ex) (al : Option Addr) (cap : Nat) (done : List Ex) (w : World), Ex.sum l ≤ N → l.length < 2199023255552 → RowAt (Lo B) w0 al (l.map Ex.rx) → (∀ x ∈ partL k l, Pr x) → (done ++ partL k l).length ≤ M → I done w → Below B w0 w →
    Calls Tryz.prog 60 #[.int .u8 k, .slice al l.length cap, .func (.func fn) #[] cs] w fun x w' => x = .returned (.tuple #[]) ∧ I (done ++ partL k l) w' ∧ Below B w w' := by
  induction N with
  | zero =>
    intro l al cap done w hN hlen hR hP hM hI hb
    have hl : l = [] := by
      cases l with
      | nil => rfl
      | cons e l => have := e.size_pos; simp [Ex.sum] at hN; omega
    subst hl
    have HI := Lib.hid hI
    clear hI hR hP hT hM
    have q1 : ¬ (0 : Int) < ((([] : List Ex).length : Nat) : Int) := by simp
    rw [show ([] : List Ex).length = 0 from rfl]
    go_enter Tryz.func60, Tryz.ntmps60
    go_wp2
    go_loopw [10] (fun y wr => y = .int .i64 0 ∧ wr = w) (fun _ _ => 0)
    case atStart => exact ⟨rfl, rfl⟩
    case round =>
      obtain ⟨rfl, rfl⟩ := hrel
      go_wp2
      go_end0
      exact ⟨rfl, by simpa [partL] using HI.out, Below.refl _ _⟩
  | succ N ih =>
    intro l al cap done w hN hlen hR hP hM hI hb
    have HM := Lib.hid hM
    have IH := Lib.hid ih
    have HR := Lib.hid hR
    have HP := Lib.hid hP
    have HI := Lib.hid hI
    have HT := Lib.hid hT
    clear ih hR hP hI hT hM
    go_enter Tryz.func60, Tryz.ntmps60
    go_wp2
    go_loopw [10] (fun y wr => eachInv k B I done l w y wr) (fun y _ => l.length - (intOf y).toNat)
    case atStart => exact ⟨0, Nat.zero_le _, rfl, by simpa [partL] using HI.out, Below.refl _ _⟩
    case round =>
      obtain ⟨i, hi, rfl, hIr, hbr⟩ := hrel
      clear HI
      have HI := Lib.hid hIr
      clear hIr
      by_cases hlt : i < l.length
      · have hlt' : i < (l.map Ex.rx).length := by simpa using hlt
        obtain ⟨b, off, rfl, hblt, hbB, hnode⟩ := HR.out.kidOk hlt'
        rw [List.getElem_map] at hnode
        have hsz := sum_get hlt
        have HPT := Lib.hid (partL_take (k := k) hlt)
        have HML := Lib.hid (Nat.le_trans (part_take_le k done l (i + 1)) HM.out)
        rw [partL_take hlt] at HML
        have HPM := Lib.hid fun x (hx : x ∈ partE k l[i]) => HP.out x (List.mem_flatMap.2 ⟨l[i], List.getElem_mem hlt, hx⟩)
        generalize l[i] = e at *
        obtain ⟨ka, ⟨sa, sb, sc, sd⟩, ksa, hsa⟩ := rx_form e
        rw [hsa] at hnode
        obtain ⟨al', cap', ⟨c0w, c1w, c2w, c3w, c4w, c5w⟩, hre⟩ := hnode.read
        simp only at c0w c1w c2w c3w c4w c5w hre
        have hb0r : Below B w0 wr := hb.trans hbr
        have hblk := hb0r.block b hbB
        have e6 := fun o => World.cell?_of_block (w := w0) (w' := wr) (a := ⟨b, o, none⟩) hblk
        have c0 := (e6 _).trans c0w
        have c1 := (e6 _).trans c1w
        have c2 := (e6 _).trans c2w
        have c3 := (e6 _).trans c3w
        have c4 := (e6 _).trans c4w
        have c5 := (e6 _).trans c5w
        have q1 : (i : Int) < (l.length : Int) := by omega
        clear e6 c0w c1w c2w c3w c4w c5w hnode hblk
        by_cases hkk : ka = k
        · subst hkk
          have hkb : ((ka : Int) == (ka : Int)) = true := by simp
          obtain ⟨x, y, rfl, hpe, hsum, hpl⟩ := part_same hsa hk
          have hrow := hre.2.2
          obtain ⟨al2, cap2, heq, _, _, hrow⟩ := hrow
          simp at heq
          obtain ⟨rfl, rfl⟩ := heq
          have K := Lib.hid fun W (hW : Below wr.heap.size wr W) => IH.out [x, y] al' cap' (done ++ partL ka (l.take i)) W (by simp [Ex.sum]; omega) (by simp) hrow (by rw [hpl]; exact HPM.out) (by rw [hpl, List.append_assoc]; exact HML.out) (HT.out.keep _ _ _ HI.out hW) (hb0r.trans (hW.mono (Nat.le_trans hB hb0r.size)))
          rw [show ([x, y] : List Ex).length = 2 from rfl, hpl] at K
          have HB2 := Lib.hid fun w2 (W : World) (hW : Below wr.heap.size wr W) (h : Below B W w2) => (hbr.trans (hW.mono (Nat.le_trans hB hb0r.size))).trans h
          clear hrow hre hpe hpl hsum HPM
          go_wp2_with fail
          refine (K.out _ ((Below.refl _ wr).alloc (Nat.le_refl _) _)).mono ?_
          rintro z w2 ⟨rfl, hI2, hb2⟩
          have H := Lib.hid (show eachInv ka B I done l w (.int .i64 (i + 1 : Nat)) w2 from ⟨i + 1, hlt, rfl, by rw [HPT.out, ← List.append_assoc]; exact hI2, HB2.out _ _ ((Below.refl _ wr).alloc (Nat.le_refl _) _) hb2⟩)
          clear hI2 hb2 K HB2
          go_wp2
          exact ⟨by simpa using H.out, by simp [intOf]; omega⟩
        · have hkb : ((ka : Int) == (k : Int)) = false := by simp; omega
          have hpo := part_other hsa hkk
          have K := Lib.hid fun W (hW : Below wr.heap.size wr W) => HT.out.step (done ++ partL k (l.take i)) e _ W (by have h := HML.out; rw [hpo, ← List.append_assoc, List.length_append] at h; exact h) (HT.out.keep _ _ _ HI.out hW) (hb0r.trans (hW.mono (Nat.le_trans hB hb0r.size))) (HPM.out e (by rw [hpo]; simp)) (by rw [hsa]; exact row_re hre hB (hb0r.trans (hW.mono (Nat.le_trans hB hb0r.size))))
          have HB2 := Lib.hid fun w2 (W : World) (hW : Below wr.heap.size wr W) (h : Below B W w2) => (hbr.trans (hW.mono (Nat.le_trans hB hb0r.size))).trans h
          rw [hpo] at HPT
          clear hre hpo HPM
          go_wp2_with fail
          rw [HT.out.enter]
          refine (K.out _ ((Below.refl _ wr).alloc (Nat.le_refl _) _)).mono ?_
          rintro z w2 ⟨rfl, hI2, hb2⟩
          have H := Lib.hid (show eachInv k B I done l w (.int .i64 (i + 1 : Nat)) w2 from ⟨i + 1, hlt, rfl, by rw [HPT.out, ← List.append_assoc]; exact hI2, HB2.out _ _ ((Below.refl _ wr).alloc (Nat.le_refl _) _) hb2⟩)
          clear hI2 hb2 K HB2
          go_wp2
          exact ⟨by simpa using H.out, by simp [intOf]; omega⟩
      · have he : l.take i = l := List.take_of_length_le (by omega)
        have q1 : ¬ (i : Int) < (l.length : Int) := by omega
        go_wp2
        go_end0
        exact ⟨rfl, by rw [← he]; exact HI.out, hbr⟩
end Go.Proofs.YtiegejbbjlhpdaaGreatDoor
