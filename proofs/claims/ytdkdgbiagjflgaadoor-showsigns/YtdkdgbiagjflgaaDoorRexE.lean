/- rex.isBare, rex.Of, rex.nodeMay. -/
import Derived.Test.YtdkdgbiagjflgaaDoorRexD
import Derived.Deep.RegionHeld3
namespace Go.Proofs.YtdkdgbiagjflgaaDoor
open Go.RowKit
def bareB (s : Ws) : Bool := sameW s Ws.nil
set_option maxHeartbeats 1000000 in
theorem isBare_any (s : Ws) (w : World) :
    Calls Tryd.prog 37 #[s.v] w fun e w' => e = .returned (.bool (bareB s)) ∧ Below w.heap.size w w' := by
  by_cases h : sameW s Ws.nil = true
  · have e : bareB s = true := h
    rw [e]
    obtain rfl := sameW_iff.1 h
    have hq := eqW_yes Ws.nil
    rw [nil_v] at hq ⊢
    clear h e
    go_enter Tryd.func37, Tryd.ntmps37
    go_wp2
    go_ret
    exact ⟨rfl, (Below.refl _ w).alloc (Nat.le_refl _) _⟩
  · have e : bareB s = false := by simpa [bareB] using h
    rw [e]
    have hne : s ≠ Ws.nil := fun e => h (sameW_iff.2 e)
    have hq := eqW_no hne
    rw [nil_v] at hq
    obtain ⟨a, b, c, d⟩ := s
    unfold Ws.v at hq ⊢
    clear h e hne
    go_enter Tryd.func37, Tryd.ntmps37
    go_wp2
    go_ret
    exact ⟨rfl, (Below.refl _ w).alloc (Nat.le_refl _) _⟩
theorem below_blk {w w1 : World} {B g : Nat} {o : Obj} (h : Below B w w1) (hg : g < B) (hw : w.heap[g]? = some o) : w1.heap[g]? = some o := (h.block g hg).trans hw
set_option maxHeartbeats 1000000 in
theorem ofX_any (s : Ws) (w : World) (hs : s.Ok) :
    Calls Tryd.prog 21 #[s.v] w (NewPost (ofR s) w) := by
  have KB := Lib.hid fun W => isBare_any s W
  have HO := Lib.hid (show ofR s = if bareB s then .node 1 Ws.nil [] else .node 3 s [] from rfl)
  generalize bareB s = q at *
  obtain ⟨a, b, c, d⟩ := s
  unfold Ws.v at KB ⊢
  go_enter Tryd.func21, Tryd.ntmps21
  go_wp2_with fail
  refine (KB.out _).mono ?_
  rintro e w1 ⟨rfl, hb1⟩
  have hbl : w1.heap[w.heap.size + 1]? = some (.cells #[.int .u8 0, .int .u64 0, .int .u64 0, .int .u64 0, .int .u64 0, .slice none 0 0] 30) := (hb1.block _ (by simp)).trans (blk_at _ _ (by simp))
  have hbs : w1.heap[w.heap.size]? = some (.cells #[.int .u64 a, .int .u64 b, .int .u64 c, .int .u64 d] 28) := (hb1.block _ (by simp; omega)).trans ((Below.heap_alloc _ _ _ (by simp)).trans (blk_at _ _ rfl))
  have hbw : Below w.heap.size w w1 := (((Below.refl _ w).alloc (Nat.le_refl _) _).alloc (by simp) _).trans (hb1.mono (by simp; omega))
  obtain ⟨d0, d1, d2, d3, d4, d5, f0, f1, f2, f3, f4, f5⟩ := cellsR hbl
  obtain ⟨⟨c0, c1, c2, c3⟩, _⟩ := (show Box w1 w.heap.size ⟨a, b, c, d⟩ from hbs).all
  simp only at c0 c1 c2 c3
  have HBL := Lib.hid hbl
  have HBW := Lib.hid hbw
  clear hbl hbs hb1 hbw
  cases q
  · have HP := Lib.hid (putR HBL.out (.int .u8 3) (.int .u64 a) (.int .u64 b) (.int .u64 c) (.int .u64 d) (.slice none 0 0))
    have HB := Lib.hid (putB HBW.out (by omega : w.heap.size ≤ w.heap.size + 1) (.int .u8 3) (.int .u64 a) (.int .u64 b) (.int .u64 c) (.int .u64 d) (.slice none 0 0))
    unfold putW at HP HB
    go_wp2
    refine ret_re HP.out Tryd.results21 rfl rfl ⟨_, rfl, ?_, HB.out⟩
    rw [HO.out]
    exact bareAt _ _ 3 ⟨a, b, c, d⟩ (by decide) hs
  · have HP := Lib.hid (putR HBL.out (.int .u8 1) (.int .u64 0) (.int .u64 0) (.int .u64 0) (.int .u64 0) (.slice none 0 0))
    have HB := Lib.hid (putB HBW.out (by omega : w.heap.size ≤ w.heap.size + 1) (.int .u8 1) (.int .u64 0) (.int .u64 0) (.int .u64 0) (.int .u64 0) (.slice none 0 0))
    unfold putW at HP HB
    go_wp2
    refine ret_re HP.out Tryd.results21 rfl rfl ⟨_, rfl, ?_, HB.out⟩
    rw [HO.out]
    exact bareAt _ _ 1 Ws.nil (by decide) Ws.nil_ok
def nodeGood (k n : Nat) (q : Bool) : Bool :=
  if k = 1 ∨ k = 2 then decide (n = 0) && q else if k = 3 then decide (n = 0) && !q else if k = 4 ∨ k = 5 then decide (n = 2) && q else if k = 6 then decide (n = 1) && q else false
def goodN : Rx → Bool
  | .node k s ks => nodeGood k ks.length (bareB s)
/-- What a walk reads of a block that holds an expression. -/
def ReCells (x : World) (g : Nat) (k a b c d : Nat) (sl : Value) : Prop := x.cell? ⟨g, 0, none⟩ = some (.int .u8 k) ∧ x.cell? ⟨g, 1, none⟩ = some (.int .u64 a) ∧ x.cell? ⟨g, 2, none⟩ = some (.int .u64 b) ∧ x.cell? ⟨g, 3, none⟩ = some (.int .u64 c) ∧ x.cell? ⟨g, 4, none⟩ = some (.int .u64 d) ∧ x.cell? ⟨g, 5, none⟩ = some sl
theorem reCells_of {x : World} {g k a b c d : Nat} {sl : Value} (h : x.heap[g]? = some (.cells #[.int .u8 k, .int .u64 a, .int .u64 b, .int .u64 c, .int .u64 d, sl] 30)) : ReCells x g k a b c d sl := by
  obtain ⟨d0, d1, d2, d3, d4, d5, _⟩ := cellsR h
  exact ⟨d0, d1, d2, d3, d4, d5⟩
theorem ReCells.below {x y : World} {B g k a b c d : Nat} {sl : Value} (h : ReCells x g k a b c d sl) (hb : Below B x y) (hg : g < B) : ReCells y g k a b c d sl := by
  have e := fun o => hb.cell (p := ⟨g, o, none⟩) hg
  obtain ⟨d0, d1, d2, d3, d4, d5⟩ := h
  exact ⟨by rw [e]; exact d0, by rw [e]; exact d1, by rw [e]; exact d2, by rw [e]; exact d3, by rw [e]; exact d4, by rw [e]; exact d5⟩
theorem keepR {W x y : World} {g k a b c d : Nat} {sl : Value} (h : ReCells W g k a b c d sl) (hg : g < W.heap.size) (h1 : Below W.heap.size W x) (h2 : Below x.heap.size x y) :
    (y.cell? ⟨g, 0, none⟩ = some (.int .u8 k) ∧ y.cell? ⟨g, 1, none⟩ = some (.int .u64 a) ∧ y.cell? ⟨g, 2, none⟩ = some (.int .u64 b) ∧ y.cell? ⟨g, 3, none⟩ = some (.int .u64 c) ∧ y.cell? ⟨g, 4, none⟩ = some (.int .u64 d) ∧ y.cell? ⟨g, 5, none⟩ = some sl) ∧ Below W.heap.size W y := by
  have hb := h1.trans (h2.mono h1.size)
  exact ⟨h.below hb hg, hb⟩
set_option maxHeartbeats 4000000 in
theorem nodeMay_any (k : Nat) (s : Ws) (n : Nat) (al : Option Addr) (cap : Nat) (w : World) (hk : k < 256) (hn : n < 2199023255552) :
    Calls Tryd.prog 57 #[.agg #[.int .u8 k, .int .u64 s.a, .int .u64 s.b, .int .u64 s.c, .int .u64 s.d, .slice al n cap]] w fun e w' => e = .returned (.bool (nodeGood k n (bareB s))) ∧ Below w.heap.size w w' := by
  have KB := Lib.hid fun W => isBare_any s W
  generalize bareB s = q at *
  obtain ⟨a, b, c, d⟩ := s
  unfold Ws.v at KB
  simp only at KB ⊢
  go_enter Tryd.func57, Tryd.ntmps57
  go_wp2_with fail
  have h0 := reCells_of (blk_new w (.cells #[.int .u8 k, .int .u64 a, .int .u64 b, .int .u64 c, .int .u64 d, .slice al n cap] 30))
  have hb0 := (Below.refl _ w).alloc (Nat.le_refl _) (.cells #[.int .u8 k, .int .u64 a, .int .u64 b, .int .u64 c, .int .u64 d, .slice al n cap] 30)
  have hg : w.heap.size < (w.alloc (.cells #[.int .u8 k, .int .u64 a, .int .u64 b, .int .u64 c, .int .u64 d, .slice al n cap] 30)).heap.size := by simp
  generalize hW : w.alloc (.cells #[.int .u8 k, .int .u64 a, .int .u64 b, .int .u64 c, .int .u64 d, .slice al n cap] 30) = W at *
  clear hW
  have H0 := Lib.hid h0
  clear h0
  go_region_held3 (fun x => (x.cell? ⟨w.heap.size, 0, none⟩ = some (.int .u8 k) ∧ x.cell? ⟨w.heap.size, 1, none⟩ = some (.int .u64 a) ∧ x.cell? ⟨w.heap.size, 2, none⟩ = some (.int .u64 b) ∧ x.cell? ⟨w.heap.size, 3, none⟩ = some (.int .u64 c) ∧ x.cell? ⟨w.heap.size, 4, none⟩ = some (.int .u64 d) ∧ x.cell? ⟨w.heap.size, 5, none⟩ = some (.slice al n cap)) ∧ Below W.heap.size W x)
    (first | assumption | exact ⟨H0.out, (Below.refl _ _).drew⟩ | exact keepR H0.out hg (And.right (by assumption)) (by assumption))
    (first
      | (go_at_call 37; (with_reducible refine (KB.out _).mono ?_); rintro e w' ⟨rfl, hbb⟩))
  all_goals
    obtain ⟨⟨c0, c1, c2, c3, c4, c5⟩, hbx⟩ := ‹_ ∧ Below W.heap.size W _›
    have hbw := hb0.trans (hbx.mono (Nat.le_of_lt hg))
    have HBW := Lib.hid hbw
    clear hbx hbw
    by_cases k1 : k = 1
    · subst k1
      by_cases hn0 : n = 0
      · subst hn0
        go_wp2
        go_ret
        exact ⟨by simp [nodeGood], HBW.out⟩
      · have e0 : ((n : Int) == 0) = false := by simp; omega
        go_wp2
        go_ret
        exact ⟨by simp [nodeGood, hn0], HBW.out⟩
    have f1 : ((k : Int) == 1) = false := by simp; omega
    by_cases k2 : k = 2
    · subst k2
      by_cases hn0 : n = 0
      · subst hn0
        go_wp2
        go_ret
        exact ⟨by simp [nodeGood], HBW.out⟩
      · have e0 : ((n : Int) == 0) = false := by simp; omega
        go_wp2
        go_ret
        exact ⟨by simp [nodeGood, hn0], HBW.out⟩
    have f2 : ((k : Int) == 2) = false := by simp; omega
    by_cases k3 : k = 3
    · subst k3
      by_cases hn0 : n = 0
      · subst hn0
        go_wp2
        go_ret
        exact ⟨by simp [nodeGood], HBW.out⟩
      · have e0 : ((n : Int) == 0) = false := by simp; omega
        go_wp2
        go_ret
        exact ⟨by simp [nodeGood, hn0], HBW.out⟩
    have f3 : ((k : Int) == 3) = false := by simp; omega
    by_cases k4 : k = 4
    · subst k4
      by_cases hn0 : n = 2
      · subst hn0
        go_wp2
        go_ret
        exact ⟨by simp [nodeGood], HBW.out⟩
      · have e0 : ((n : Int) == 2) = false := by simp; omega
        go_wp2
        go_ret
        exact ⟨by simp [nodeGood, hn0], HBW.out⟩
    have f4 : ((k : Int) == 4) = false := by simp; omega
    by_cases k5 : k = 5
    · subst k5
      by_cases hn0 : n = 2
      · subst hn0
        go_wp2
        go_ret
        exact ⟨by simp [nodeGood], HBW.out⟩
      · have e0 : ((n : Int) == 2) = false := by simp; omega
        go_wp2
        go_ret
        exact ⟨by simp [nodeGood, hn0], HBW.out⟩
    have f5 : ((k : Int) == 5) = false := by simp; omega
    by_cases k6 : k = 6
    · subst k6
      by_cases hn0 : n = 1
      · subst hn0
        go_wp2
        go_ret
        exact ⟨by simp [nodeGood], HBW.out⟩
      · have e0 : ((n : Int) == 1) = false := by simp; omega
        go_wp2
        go_ret
        exact ⟨by simp [nodeGood, hn0], HBW.out⟩
    have f6 : ((k : Int) == 6) = false := by simp; omega
    have HG := Lib.hid (show nodeGood k n q = false from by simp [nodeGood, k1, k2, k3, k4, k5, k6])
    clear k1 k2 k3 k4 k5 k6
    go_wp2
    go_ret
    exact ⟨by rw [HG.out]; rfl, HBW.out⟩
end Go.Proofs.YtdkdgbiagjflgaaDoor
