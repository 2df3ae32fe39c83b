/- Lemmas of mine, merged: QLNullH, QLNullI, QLDerH, QLDerI. -/
import Derived.Deep.CutRange
import Derived.Deep.RegionLaw
import Derived.Test.YtkieoomjenhacaaGreatDoorQLRexKAll
import Derived.Test.YtkieoomjenhacaaGreatDoorQLRexEAll
/- Lemmas of mine. -/
namespace Go.Proofs.YtkieoomjenhacaaGreatDoor
open Go.RowKit
def Rb (w W : World) (x0 x1 x2 x3 x4 : Int) (xl : Option Addr) (xn xc : Nat) : Prop := W.heap[w.heap.size]? = some (.cells #[.int .u8 x0, .int .u64 x1, .int .u64 x2, .int .u64 x3, .int .u64 x4, .slice xl xn xc] 27) ∧ Bg W (w.heap.size + 1) false Ws.nil ∧ Below w.heap.size w W
theorem Rb.go {w W W' : World} {x0 x1 x2 x3 x4 : Int} {xl : Option Addr} {xn xc : Nat} (h : Rb w W x0 x1 x2 x3 x4 xl xn xc) (hb : Below W.heap.size W W') : Rb w W' x0 x1 x2 x3 x4 xl xn xc :=
  ⟨(hb.block _ (Array.getElem?_eq_some_iff.1 h.1).1).trans h.1, h.2.1.below hb h.2.1.lt, h.2.2.trans (hb.mono h.2.2.size)⟩
theorem Rb.new (w : World) (x0 x1 x2 x3 x4 : Int) (xl : Option Addr) (xn xc : Nat) : Rb w ((w.alloc (.cells #[.int .u8 x0, .int .u64 x1, .int .u64 x2, .int .u64 x3, .int .u64 x4, .slice xl xn xc] 27)).alloc (.cells #[.bool false, .int .u64 0, .int .u64 0, .int .u64 0, .int .u64 0] 64)) x0 x1 x2 x3 x4 xl xn xc :=
  ⟨(Below.heap_alloc _ _ _ (by simp)).trans (blk_new w _), Bg.zero (by simp), ((Below.refl _ w).alloc (Nat.le_refl _) _).alloc (by simp) _⟩
structure Kpt (g : Nat) (w w' : World) : Prop where
  size : w.heap.size ≤ w'.heap.size
  block : ∀ k, k < w.heap.size → k ≠ g → w'.heap[k]? = w.heap[k]?
theorem Kpt.of {g : Nat} {w w' : World} (h : Below w.heap.size w w') : Kpt g w w' := ⟨h.size, fun k hk _ => h.block k hk⟩
theorem Kpt.put {g : Nat} {w w' : World} (h : Kpt g w w') (x0 x1 x2 x3 x4 : Value) : Kpt g w (putG w' g x0 x1 x2 x3 x4) :=
  ⟨by simp [putG, World.setCell]; exact h.size, fun k hk hg => by rw [← h.block k hk hg]; simp [putG, World.setCell, Array.getElem?_modify, Ne.symm hg]⟩
theorem Bg.kp {g k : Nat} {w w' : World} {n : Bool} {s : Ws} (h : Bg w k n s) (hk : Kpt g w w') (hne : k ≠ g) : Bg w' k n s := (hk.block k h.lt hne).trans h
def AltBg (W : World) (na nb : Bool) (fa fb : Ws) (s u : Value) (wc : World) : Prop := ∃ ga gb, s = .pointer (some ⟨ga, 0, none⟩) ∧ u = .pointer (some ⟨gb, 0, none⟩) ∧ Bg wc ga na fa ∧ Bg wc gb nb fb ∧ W.heap.size ≤ ga ∧ W.heap.size ≤ gb ∧ Below W.heap.size W wc
theorem putG_far {w : World} {g h : Nat} {n : Bool} {s : Ws} (hB : Bg w g n s) (hne : g ≠ h) (x0 x1 x2 x3 x4 : Value) : Bg (putG w h x0 x1 x2 x3 x4) g n s :=
  ((((hB.far (p := ⟨h, 0, none⟩) hne _).far (p := ⟨h, 1, none⟩) hne _).far (p := ⟨h, 2, none⟩) hne _).far (p := ⟨h, 3, none⟩) hne _).far (p := ⟨h, 4, none⟩) hne _
theorem altOO {W w : World} {g h : Nat} {na nb : Bool} {a b c d a' b' c' d' : Nat} (h1 : Bg w g false Ws.nil) (h2 : Bg w h false Ws.nil) (hne : g ≠ h) (hg : W.heap.size ≤ g) (hh : W.heap.size ≤ h) (hb : Below W.heap.size W w) :
    AltBg W na nb ⟨a, b, c, d⟩ ⟨a', b', c', d'⟩ (.pointer (some ⟨g, 0, none⟩)) (.pointer (some ⟨h, 0, none⟩)) (putG (putG w g (.bool na) (.int .u64 a) (.int .u64 b) (.int .u64 c) (.int .u64 d)) h (.bool nb) (.int .u64 a') (.int .u64 b') (.int .u64 c') (.int .u64 d')) :=
  ⟨g, h, rfl, rfl, putG_far (h1.put na a b c d) hne _ _ _ _ _, (putG_far h2 (Ne.symm hne) _ _ _ _ _).put nb a' b' c' d', hg, hh, belowG (belowG hb hg _ _ _ _ _) hh _ _ _ _ _⟩
theorem altON {W w : World} {g h : Nat} {na nb : Bool} {a b c d a' b' c' d' : Nat} (h1 : Bg w g false Ws.nil) (hh : h = w.heap.size) (hg : W.heap.size ≤ g) (hb : Below W.heap.size W w) :
    AltBg W na nb ⟨a, b, c, d⟩ ⟨a', b', c', d'⟩ (.pointer (some ⟨g, 0, none⟩)) (.pointer (some ⟨h, 0, none⟩)) ((putG w g (.bool na) (.int .u64 a) (.int .u64 b) (.int .u64 c) (.int .u64 d)).alloc (.cells #[.bool nb, .int .u64 a', .int .u64 b', .int .u64 c', .int .u64 d'] 64)) :=
  ⟨g, h, rfl, rfl, (h1.put na a b c d).alloc _, Bg.new nb a' b' c' d' (by rw [hh]; simp [putG, World.setCell]), hg, by rw [hh]; exact hb.size, (belowG hb hg _ _ _ _ _).alloc (by simp [putG, World.setCell]; exact hb.size) _⟩
theorem altNO {W w : World} {g h : Nat} {na nb : Bool} {a b c d a' b' c' d' : Nat} (h2 : Bg w h false Ws.nil) (hg : g = w.heap.size) (hh : W.heap.size ≤ h) (hb : Below W.heap.size W w) :
    AltBg W na nb ⟨a, b, c, d⟩ ⟨a', b', c', d'⟩ (.pointer (some ⟨g, 0, none⟩)) (.pointer (some ⟨h, 0, none⟩)) ((putG w h (.bool nb) (.int .u64 a') (.int .u64 b') (.int .u64 c') (.int .u64 d')).alloc (.cells #[.bool na, .int .u64 a, .int .u64 b, .int .u64 c, .int .u64 d] 64)) :=
  ⟨g, h, rfl, rfl, Bg.new na a b c d (by rw [hg]; simp [putG, World.setCell]), (h2.put nb a' b' c' d').alloc _, by rw [hg]; exact hb.size, hh, (belowG hb hh _ _ _ _ _).alloc (by simp [putG, World.setCell]; exact hb.size) _⟩
theorem altNN {W w : World} {na nb : Bool} {a b c d a' b' c' d' : Nat} (hb : Below W.heap.size W w) :
    AltBg W na nb ⟨a, b, c, d⟩ ⟨a', b', c', d'⟩ (.pointer (some ⟨w.heap.size, 0, none⟩)) (.pointer (some ⟨w.heap.size + 1, 0, none⟩)) ((w.alloc (.cells #[.bool na, .int .u64 a, .int .u64 b, .int .u64 c, .int .u64 d] 64)).alloc (.cells #[.bool nb, .int .u64 a', .int .u64 b', .int .u64 c', .int .u64 d'] 64)) :=
  ⟨_, _, rfl, rfl, (Bg.new na a b c d rfl).alloc _, Bg.new nb a' b' c' d' (by simp), hb.size, Nat.le_succ_of_le hb.size, (hb.alloc hb.size _).alloc (by have := hb.size; simp; omega) _⟩
theorem altNN' {W w : World} {na nb : Bool} {a b c d a' b' c' d' : Nat} (hb : Below W.heap.size W w) :
    AltBg W na nb ⟨a, b, c, d⟩ ⟨a', b', c', d'⟩ (.pointer (some ⟨w.heap.size + 1, 0, none⟩)) (.pointer (some ⟨w.heap.size, 0, none⟩)) ((w.alloc (.cells #[.bool nb, .int .u64 a', .int .u64 b', .int .u64 c', .int .u64 d'] 64)).alloc (.cells #[.bool na, .int .u64 a, .int .u64 b, .int .u64 c, .int .u64 d] 64)) :=
  ⟨_, _, rfl, rfl, Bg.new na a b c d (by simp), (Bg.new nb a' b' c' d' rfl).alloc _, Nat.le_succ_of_le hb.size, hb.size, (hb.alloc hb.size _).alloc (by have := hb.size; simp; omega) _⟩
theorem bel1 {W w : World} (h : Below W.heap.size W w) (o : Obj) : Below W.heap.size W (w.alloc o) := h.alloc h.size o
theorem bel2 {W w : World} (h : Below W.heap.size W w) (o o' : Obj) : Below W.heap.size W ((w.alloc o).alloc o') := (bel1 h o).alloc (bel1 h o).size o'
theorem belT1 {W w w' : World} {o : Obj} (h : Below W.heap.size W w) (hb : Below (w.alloc o).heap.size (w.alloc o) w') : Below W.heap.size W w' := (bel1 h o).trans (hb.mono (bel1 h o).size)
theorem belT2 {W w w' : World} {o o' : Obj} (h : Below W.heap.size W w) (hb : Below ((w.alloc o).alloc o').heap.size ((w.alloc o).alloc o') w') : Below W.heap.size W w' := (bel2 h o o').trans (hb.mono (bel2 h o o').size)
theorem belGA {B g : Nat} {W w : World} (h : Below W.heap.size W w) (hB : B ≤ W.heap.size) (hg : B ≤ g) (x0 x1 x2 x3 x4 : Value) (o : Obj) : Below B W ((putG w g x0 x1 x2 x3 x4).alloc o) :=
  (belowG (h.mono hB) hg x0 x1 x2 x3 x4).alloc (by simp [putG, World.setCell]; exact Nat.le_trans hB h.size) o
theorem belGG {B g k : Nat} {W w : World} (h : Below W.heap.size W w) (hB : B ≤ W.heap.size) (hg : B ≤ g) (hk : B ≤ k) (x0 x1 x2 x3 x4 y0 y1 y2 y3 y4 : Value) : Below B W (putG (putG w g x0 x1 x2 x3 x4) k y0 y1 y2 y3 y4) :=
  belowG (belowG (h.mono hB) hg x0 x1 x2 x3 x4) hk y0 y1 y2 y3 y4
theorem zer1 {W wa : World} (hb : Below (W.alloc (.cells #[.bool false, .int .u64 0, .int .u64 0, .int .u64 0, .int .u64 0] 64)).drew.heap.size (W.alloc (.cells #[.bool false, .int .u64 0, .int .u64 0, .int .u64 0, .int .u64 0] 64)).drew wa) : Bg wa W.heap.size false Ws.nil := (Bg.zero rfl).drew.below hb (by simp)
theorem zer2 {W wa : World} (hb : Below ((W.alloc (.cells #[.bool false, .int .u64 0, .int .u64 0, .int .u64 0, .int .u64 0] 64)).alloc (.cells #[.bool false, .int .u64 0, .int .u64 0, .int .u64 0, .int .u64 0] 64)).drew.heap.size ((W.alloc (.cells #[.bool false, .int .u64 0, .int .u64 0, .int .u64 0, .int .u64 0] 64)).alloc (.cells #[.bool false, .int .u64 0, .int .u64 0, .int .u64 0, .int .u64 0] 64)).drew wa) : Bg wa W.heap.size false Ws.nil ∧ Bg wa (W.heap.size + 1) false Ws.nil :=
  ⟨((Bg.zero rfl).alloc _).drew.below hb (by simp; omega), (Bg.zero (by simp)).drew.below hb (by simp)⟩
theorem zer1' {W wa : World} (hb : Below (W.alloc (.cells #[.bool false, .int .u64 0, .int .u64 0, .int .u64 0, .int .u64 0] 64)).heap.size (W.alloc (.cells #[.bool false, .int .u64 0, .int .u64 0, .int .u64 0, .int .u64 0] 64)) wa) : Bg wa W.heap.size false Ws.nil := (Bg.zero rfl).below hb (by simp)
theorem zer2' {W wa : World} (hb : Below ((W.alloc (.cells #[.bool false, .int .u64 0, .int .u64 0, .int .u64 0, .int .u64 0] 64)).alloc (.cells #[.bool false, .int .u64 0, .int .u64 0, .int .u64 0, .int .u64 0] 64)).heap.size ((W.alloc (.cells #[.bool false, .int .u64 0, .int .u64 0, .int .u64 0, .int .u64 0] 64)).alloc (.cells #[.bool false, .int .u64 0, .int .u64 0, .int .u64 0, .int .u64 0] 64)) wa) : Bg wa W.heap.size false Ws.nil ∧ Bg wa (W.heap.size + 1) false Ws.nil :=
  ⟨((Bg.zero rfl).alloc _).below hb (by simp; omega), (Bg.zero (by simp)).below hb (by simp)⟩
theorem zkeep {w wb : World} {g : Nat} {n : Bool} {s : Ws} {o : Obj} (h : Bg w g n s) (hb : Below (w.alloc o).heap.size (w.alloc o) wb) : Bg wb g n s := (h.alloc o).below hb (by have := h.lt; simp; omega)
set_option maxHeartbeats 8000000 in
set_option maxRecDepth 100000 in
theorem begin_any {ok : Nat → Prop} (N : Nat) : ∀ (e : Ex), e.size ≤ N → e.Wf → ∀ (v : Value) (w : World), ReAt ok w v e.rx →
    Calls Tryz.prog 39 #[v] w fun x w' => x = .returned (bgV e.nul e.fst) ∧ Below w.heap.size w w' := by
  induction N with
  | zero => intro e hN; have := e.size_pos; omega
  | succ N ih =>
    intro e hN we v w hR
    cases e with
    | empty =>
      obtain ⟨_, _, al, cap, rfl, _, _, hrow⟩ := hR
      simp only [Ws.nil]
      rw [show (((1 : Nat) : Int)) = 1 from rfl, show (((0 : Nat) : Int)) = 0 from rfl]
      clear hrow
      go_enter Tryz.func39, Tryz.ntmps39
      go_wp2
      exact ret_bg (Bg.new false 0 0 0 0 (g := w.heap.size + 1) (by simp)) Tryz.results39 rfl rfl ⟨rfl, ((Below.refl _ w).alloc (Nat.le_refl _) _).alloc (by simp) _⟩
    | eps =>
      obtain ⟨_, _, al, cap, rfl, _, _, hrow⟩ := hR
      simp only [Ws.nil]
      rw [show (((2 : Nat) : Int)) = 2 from rfl, show (((0 : Nat) : Int)) = 0 from rfl]
      clear hrow
      go_enter Tryz.func39, Tryz.ntmps39
      go_wp2
      exact ret_bg (Bg.new true 0 0 0 0 (g := w.heap.size + 1) (by simp)) Tryz.results39 rfl rfl ⟨rfl, ((Below.refl _ w).alloc (Nat.le_refl _) _).alloc (by simp) _⟩
    | cls s =>
      obtain ⟨_, _, al, cap, rfl, _, _, hrow⟩ := hR
      obtain ⟨sa, sb, sc, sd⟩ := s
      show Calls Tryz.prog 39 _ w fun e w' => e = .returned (bgV false ⟨sa, sb, sc, sd⟩) ∧ Below w.heap.size w w'
      simp only
      rw [show (((3 : Nat) : Int)) = 3 from rfl]
      clear hrow
      go_enter Tryz.func39, Tryz.ntmps39
      go_wp2
      exact ret_bg (Bg.new false sa sb sc sd (g := w.heap.size + 1) (by simp)) Tryz.results39 rfl rfl ⟨rfl, ((Below.refl _ w).alloc (Nat.le_refl _) _).alloc (by simp) _⟩
    | star a =>
      obtain ⟨_, _, al, cap, rfl, hcap, _, hrow⟩ := hR
      obtain ⟨bk, off, rfl, hlt, hn0⟩ := hrow.kid (i := 0) (by simp)
      simp only [List.getElem_cons_zero, Nat.zero_mul, Nat.add_zero] at hn0
      have hcap1 : 1 ≤ cap := by simpa using hcap
      obtain ⟨ka, ⟨sa, sb, sc, sd⟩, ksa, hsa⟩ := rx_form a
      have ha : ∀ v w, ReAt ok w v a.rx → Calls Tryz.prog 39 #[v] w fun e w' => e = .returned (bgV a.nul a.fst) ∧ Below w.heap.size w w' := fun v w h => ih a (by simp only [Ex.size] at hN; omega) we v w h
      rw [hsa] at hn0 ha
      have HA := Lib.hid ha
      have HN0 := Lib.hid hn0
      show Calls Tryz.prog 39 _ w fun e w' => e = .returned (bgV true a.fst) ∧ Below w.heap.size w w'
      simp only [Ws.nil]
      rw [show (((6 : Nat) : Int)) = 6 from rfl, show (((0 : Nat) : Int)) = 0 from rfl]
      clear hrow hn0 ha hcap hsa
      generalize a.fst = fa at *
      generalize a.nul = na at *
      obtain ⟨fa0, fa1, fa2, fa3⟩ := fa
      unfold bgV at HA
      simp only at HA
      have HR := Lib.hid (Rb.new w 6 0 0 0 0 (some ⟨bk, off, none⟩) 1 cap)
      obtain ⟨al0, cap0, ⟨c0, c1, c2, c3, c4, c5⟩, hre0⟩ := (NodeAt.below HR.out.2.2 _ hlt HN0.out).read
      simp only at c0 c1 c2 c3 c4 c5
      have KA1 := Lib.hid (HA.out _ _ hre0)
      clear hre0
      go_enter Tryz.func39, Tryz.ntmps39
      go_wp2_with fail
      refine KA1.out.mono ?_
      rintro e w1 ⟨rfl, hb1⟩
      have HR1 := Lib.hid (HR.out.go hb1)
      clear hb1 HR
      have hf1 := fld1 na fa0 fa1 fa2 fa3
      obtain ⟨⟨r0, r1, r2, r3, r4⟩, f0, f1, f2, f3, f4⟩ := HR1.out.2.1.all
      simp only [Ws.nil] at r0 r1 r2 r3 r4
      go_wp2
      exact ret_bg (HR1.out.2.1.put true fa0 fa1 fa2 fa3) Tryz.results39 rfl rfl ⟨rfl, belowG HR1.out.2.2 (by omega) _ _ _ _ _⟩
    | seq a b =>
      obtain ⟨_, _, al, cap, rfl, hcap, _, hrow⟩ := hR
      obtain ⟨bk, off, rfl, hlt, hn0⟩ := hrow.kid (i := 0) (by simp)
      simp only [List.getElem_cons_zero, Nat.zero_mul, Nat.add_zero] at hn0
      obtain ⟨bk', off', e', hlt', hn1⟩ := hrow.kid (i := 1) (by simp)
      simp at e'
      obtain ⟨rfl, rfl⟩ := e'
      simp only [List.getElem_cons_zero, List.getElem_cons_succ, Nat.one_mul] at hn1
      have hcap2 : 2 ≤ cap := by simpa using hcap
      obtain ⟨ka, ⟨sa, sb, sc, sd⟩, ksa, hsa⟩ := rx_form a
      obtain ⟨kb, ⟨ta, tb, tc, td⟩, ksb, hsb⟩ := rx_form b
      have ha : ∀ v w, ReAt ok w v a.rx → Calls Tryz.prog 39 #[v] w fun e w' => e = .returned (bgV a.nul a.fst) ∧ Below w.heap.size w w' := fun v w h => ih a (by simp only [Ex.size] at hN; omega) we.1 v w h
      have hb : ∀ v w, ReAt ok w v b.rx → Calls Tryz.prog 39 #[v] w fun e w' => e = .returned (bgV b.nul b.fst) ∧ Below w.heap.size w w' := fun v w h => ih b (by simp only [Ex.size] at hN; omega) we.2 v w h
      rw [hsa] at hn0 ha
      rw [hsb] at hn1 hb
      have oka := fst_ok a we.1
      have okb := fst_ok b we.2
      have hpost := both_seq a b we.1 we.2
      have KB := Lib.hid fun W => both_any a.nul b.nul a.fst b.fst W oka okb
      show Calls Tryz.prog 39 _ w fun e w' => e = .returned (bgV (Ex.seq a b).nul (Ex.seq a b).fst) ∧ Below w.heap.size w w'
      have h1 : (Ex.seq a b).nul = (bothN a.nul b.nul a.fst b.fst).1 := by rw [hpost]
      have h2 : (Ex.seq a b).fst = (bothN a.nul b.nul a.fst b.fst).2 := by rw [hpost]
      rw [h1, h2]
      clear h1 h2 hpost oka okb
      generalize (bothN a.nul b.nul a.fst b.fst).1 = jn at *
      generalize (bothN a.nul b.nul a.fst b.fst).2 = j at *
      have HA := Lib.hid ha
      have HB := Lib.hid hb
      have HN0 := Lib.hid hn0
      have HN1 := Lib.hid hn1
      clear hrow hn0 hn1 ha hb hcap hsa hsb
      generalize a.fst = fa at *
      generalize b.fst = fb at *
      generalize a.nul = na at *
      generalize b.nul = nb at *
      obtain ⟨fa0, fa1, fa2, fa3⟩ := fa
      obtain ⟨fb0, fb1, fb2, fb3⟩ := fb
      obtain ⟨j0, j1, j2, j3⟩ := j
      unfold bgV at HA HB KB ⊢
      simp only at HA HB KB ⊢
      simp only [Ws.nil]
      rw [show (((4 : Nat) : Int)) = 4 from rfl, show (((0 : Nat) : Int)) = 0 from rfl]
      have HR := Lib.hid (Rb.new w 4 0 0 0 0 (some ⟨bk, off, none⟩) 2 cap)
      go_enter Tryz.func39, Tryz.ntmps39
      go_wp2_with fail
      obtain ⟨W, hW⟩ : ∃ x, x = (w.alloc (.cells #[.int .u8 4, .int .u64 0, .int .u64 0, .int .u64 0, .int .u64 0, .slice (some ⟨bk, off, none⟩) 2 cap] 27)).alloc (.cells #[.bool false, .int .u64 0, .int .u64 0, .int .u64 0, .int .u64 0] 64) := ⟨_, rfl⟩
      rw [← hW] at HR ⊢
      have HW := Lib.hid hW
      clear hW
      obtain ⟨al0, cap0, ⟨c0, c1, c2, c3, c4, c5⟩, hra⟩ := HN0.out.read
      obtain ⟨al1, cap1, ⟨d0, d1, d2, d3, d4, d5⟩, hrb⟩ := HN1.out.read
      simp only at c0 c1 c2 c3 c4 c5 d0 d1 d2 d3 d4 d5
      have hW0 := (Below.refl W.heap.size W).drew
      have hlb : w.heap.size + 1 ≤ W.heap.size := Nat.le_of_lt HR.out.2.1.lt
      have hV0 := hW0.mono hlb
      have RA := Lib.hid fun x (hx : Below (w.heap.size + 1) W x) => hra.below (HR.out.2.2.trans (hx.mono (Nat.le_succ _)))
      have RB := Lib.hid fun x (hx : Below (w.heap.size + 1) W x) => hrb.below (HR.out.2.2.trans (hx.mono (Nat.le_succ _)))
      have KEEP := Lib.hid fun x (hx : Below (w.heap.size + 1) W x) => show (x.cell? ⟨w.heap.size, 5, none⟩ = some (.slice (some ⟨bk, off, none⟩) 2 cap) ∧ x.cell? ⟨bk, off, none⟩ = some (.int .u8 ka) ∧ x.cell? ⟨bk, off + 1, none⟩ = some (.int .u64 sa) ∧ x.cell? ⟨bk, off + 2, none⟩ = some (.int .u64 sb) ∧ x.cell? ⟨bk, off + 3, none⟩ = some (.int .u64 sc) ∧ x.cell? ⟨bk, off + 4, none⟩ = some (.int .u64 sd) ∧ x.cell? ⟨bk, off + 5, none⟩ = some (.slice al0 ksa.length cap0) ∧ x.cell? ⟨bk, off + 6, none⟩ = some (.int .u8 kb) ∧ x.cell? ⟨bk, off + 6 + 1, none⟩ = some (.int .u64 ta) ∧ x.cell? ⟨bk, off + 6 + 2, none⟩ = some (.int .u64 tb) ∧ x.cell? ⟨bk, off + 6 + 3, none⟩ = some (.int .u64 tc) ∧ x.cell? ⟨bk, off + 6 + 4, none⟩ = some (.int .u64 td) ∧ x.cell? ⟨bk, off + 6 + 5, none⟩ = some (.slice al1 ksb.length cap1)) ∧ Below (w.heap.size + 1) W x from by
        have hwx := HR.out.2.2.trans (hx.mono (Nat.le_succ _))
        obtain ⟨-, -, -, -, -, x5, -⟩ := cellsR ((hx.block _ (Nat.lt_succ_self _)).trans HR.out.1)
        have e0 := (hwx.cell (p := ⟨bk, off, none⟩) hlt).trans c0
        have e1 := (hwx.cell (p := ⟨bk, off + 1, none⟩) hlt).trans c1
        have e2 := (hwx.cell (p := ⟨bk, off + 2, none⟩) hlt).trans c2
        have e3 := (hwx.cell (p := ⟨bk, off + 3, none⟩) hlt).trans c3
        have e4 := (hwx.cell (p := ⟨bk, off + 4, none⟩) hlt).trans c4
        have e5 := (hwx.cell (p := ⟨bk, off + 5, none⟩) hlt).trans c5
        have g0 := (hwx.cell (p := ⟨bk, off + 6, none⟩) hlt).trans d0
        have g1 := (hwx.cell (p := ⟨bk, off + 6 + 1, none⟩) hlt).trans d1
        have g2 := (hwx.cell (p := ⟨bk, off + 6 + 2, none⟩) hlt).trans d2
        have g3 := (hwx.cell (p := ⟨bk, off + 6 + 3, none⟩) hlt).trans d3
        have g4 := (hwx.cell (p := ⟨bk, off + 6 + 4, none⟩) hlt).trans d4
        have g5 := (hwx.cell (p := ⟨bk, off + 6 + 5, none⟩) hlt).trans d5
        exact ⟨⟨x5, e0, e1, e2, e3, e4, e5, g0, g1, g2, g3, g4, g5⟩, hx⟩
      clear c0 c1 c2 c3 c4 c5 d0 d1 d2 d3 d4 d5 hra hrb
      go_region_held3 (fun x => (x.cell? ⟨w.heap.size, 5, none⟩ = some (.slice (some ⟨bk, off, none⟩) 2 cap) ∧ x.cell? ⟨bk, off, none⟩ = some (.int .u8 ka) ∧ x.cell? ⟨bk, off + 1, none⟩ = some (.int .u64 sa) ∧ x.cell? ⟨bk, off + 2, none⟩ = some (.int .u64 sb) ∧ x.cell? ⟨bk, off + 3, none⟩ = some (.int .u64 sc) ∧ x.cell? ⟨bk, off + 4, none⟩ = some (.int .u64 sd) ∧ x.cell? ⟨bk, off + 5, none⟩ = some (.slice al0 ksa.length cap0) ∧ x.cell? ⟨bk, off + 6, none⟩ = some (.int .u8 kb) ∧ x.cell? ⟨bk, off + 6 + 1, none⟩ = some (.int .u64 ta) ∧ x.cell? ⟨bk, off + 6 + 2, none⟩ = some (.int .u64 tb) ∧ x.cell? ⟨bk, off + 6 + 3, none⟩ = some (.int .u64 tc) ∧ x.cell? ⟨bk, off + 6 + 4, none⟩ = some (.int .u64 td) ∧ x.cell? ⟨bk, off + 6 + 5, none⟩ = some (.slice al1 ksb.length cap1)) ∧ Below (w.heap.size + 1) W x)
        (first | (with_reducible exact KEEP.out _ hV0) | (with_reducible exact KEEP.out _ hVa) | (with_reducible exact KEEP.out _ hVb) | (with_reducible exact KEEP.out _ hVc) | (with_reducible exact KEEP.out _ hVd))
        (first
        | (go_at_call 39; (with_reducible refine (HA.out _ _ (RA.out _ hV0)).mono ?_); (rintro e wa ⟨rfl, hba⟩); (with_reducible have hWa := hW0.trans (hba.mono hW0.size)); (have hVa := hWa.mono hlb))
        | (go_at_call 39; (with_reducible refine (HB.out _ _ (RB.out _ hVa)).mono ?_); (rintro e wb ⟨rfl, hbb⟩); (with_reducible have hWb := hWa.trans (hbb.mono hWa.size)); (have hVb := hWb.mono hlb))
        | (go_at_call 58; (with_reducible refine (KB.out _).mono ?_); (rintro e wc ⟨rfl, hbc⟩); (with_reducible have hWc := hWb.trans (hbc.mono hWb.size)); (have hVc := hWc.mono hlb); (have hVd := belowG hVc (Nat.le_refl _) (.bool jn) (.int .u64 j0) (.int .u64 j1) (.int .u64 j2) (.int .u64 j3)); (have hRc := HR.out.go hWc); (obtain ⟨⟨r0, r1, r2, r3, r4⟩, f0, f1, f2, f3, f4⟩ := hRc.2.1.all); (simp only [Ws.nil] at r0 r1 r2 r3 r4))
        | fail)
      all_goals
        go_wp2
        exact ret_bg (hRc.2.1.put jn j0 j1 j2 j3) Tryz.results39 rfl rfl ⟨rfl, belowG hRc.2.2 (by omega) _ _ _ _ _⟩
    | alt a b =>
      obtain ⟨_, _, al, cap, rfl, hcap, _, hrow⟩ := hR
      obtain ⟨bk, off, rfl, hlt, hn0⟩ := hrow.kid (i := 0) (by simp)
      simp only [List.getElem_cons_zero, Nat.zero_mul, Nat.add_zero] at hn0
      obtain ⟨bk', off', e', hlt', hn1⟩ := hrow.kid (i := 1) (by simp)
      simp at e'
      obtain ⟨rfl, rfl⟩ := e'
      simp only [List.getElem_cons_zero, List.getElem_cons_succ, Nat.one_mul] at hn1
      have hcap2 : 2 ≤ cap := by simpa using hcap
      obtain ⟨ka, ⟨sa, sb, sc, sd⟩, ksa, hsa⟩ := rx_form a
      obtain ⟨kb, ⟨ta, tb, tc, td⟩, ksb, hsb⟩ := rx_form b
      have ha : ∀ v w, ReAt ok w v a.rx → Calls Tryz.prog 39 #[v] w fun e w' => e = .returned (bgV a.nul a.fst) ∧ Below w.heap.size w w' := fun v w h => ih a (by simp only [Ex.size] at hN; omega) we.1 v w h
      have hb : ∀ v w, ReAt ok w v b.rx → Calls Tryz.prog 39 #[v] w fun e w' => e = .returned (bgV b.nul b.fst) ∧ Below w.heap.size w w' := fun v w h => ih b (by simp only [Ex.size] at hN; omega) we.2 v w h
      rw [hsa] at hn0 ha
      rw [hsb] at hn1 hb
      have oka := fst_ok a we.1
      have okb := fst_ok b we.2
      have KJ := Lib.hid fun (g : Nat) (cap : Nat) (W : World) (h : SetsAt W (some ⟨g, 0, none⟩) [a.fst, b.fst]) => join_any (some ⟨g, 0, none⟩) [a.fst, b.fst] cap W h
      rw [join_two] at KJ
      rw [show [a.fst, b.fst].length = 2 from rfl] at KJ
      have HS := Lib.hid fun (W : World) (g : Nat) (h : W.heap[g]? = some (.cells #[.int .u64 a.fst.a, .int .u64 a.fst.b, .int .u64 a.fst.c, .int .u64 a.fst.d, .int .u64 b.fst.a, .int .u64 b.fst.b, .int .u64 b.fst.c, .int .u64 b.fst.d] 24 (0, 0))) => nsets_two oka okb h
      show Calls Tryz.prog 39 _ w fun e w' => e = .returned (bgV (a.nul || b.nul) (Ex.alt a b).fst) ∧ Below w.heap.size w w'
      rw [fst_alt a b we.1 we.2]
      clear oka okb
      generalize a.fst.join b.fst = j at *
      have HA := Lib.hid ha
      have HB := Lib.hid hb
      have HN0 := Lib.hid hn0
      have HN1 := Lib.hid hn1
      clear hrow hn0 hn1 ha hb hcap hsa hsb
      generalize a.fst = fa at *
      generalize b.fst = fb at *
      generalize a.nul = na at *
      generalize b.nul = nb at *
      obtain ⟨fa0, fa1, fa2, fa3⟩ := fa
      obtain ⟨fb0, fb1, fb2, fb3⟩ := fb
      obtain ⟨j0, j1, j2, j3⟩ := j
      unfold bgV at HA HB  ⊢
      simp only at HA HB KJ HS ⊢
      unfold Ws.v at KJ
      simp only at KJ
      simp only [Ws.nil]
      rw [show (((5 : Nat) : Int)) = 5 from rfl, show (((0 : Nat) : Int)) = 0 from rfl]
      have HR := Lib.hid (Rb.new w 5 0 0 0 0 (some ⟨bk, off, none⟩) 2 cap)
      go_enter Tryz.func39, Tryz.ntmps39
      go_wp2_with fail
      obtain ⟨W, hW⟩ : ∃ x, x = (w.alloc (.cells #[.int .u8 5, .int .u64 0, .int .u64 0, .int .u64 0, .int .u64 0, .slice (some ⟨bk, off, none⟩) 2 cap] 27)).alloc (.cells #[.bool false, .int .u64 0, .int .u64 0, .int .u64 0, .int .u64 0] 64) := ⟨_, rfl⟩
      rw [← hW] at HR ⊢
      have HW := Lib.hid hW
      clear hW
      obtain ⟨al0, cap0, ⟨c0, c1, c2, c3, c4, c5⟩, hra⟩ := HN0.out.read
      obtain ⟨al1, cap1, ⟨d0, d1, d2, d3, d4, d5⟩, hrb⟩ := HN1.out.read
      simp only at c0 c1 c2 c3 c4 c5 d0 d1 d2 d3 d4 d5
      have hW0 := (Below.refl W.heap.size W).drew
      have hlb : w.heap.size + 1 ≤ W.heap.size := Nat.le_of_lt HR.out.2.1.lt
      have hV0 := hW0.mono hlb
      have RA := Lib.hid fun x (hx : Below (w.heap.size + 1) W x) => hra.below (HR.out.2.2.trans (hx.mono (Nat.le_succ _)))
      have RB := Lib.hid fun x (hx : Below (w.heap.size + 1) W x) => hrb.below (HR.out.2.2.trans (hx.mono (Nat.le_succ _)))
      have KEEP := Lib.hid fun x (hx : Below (w.heap.size + 1) W x) => show (x.cell? ⟨w.heap.size, 5, none⟩ = some (.slice (some ⟨bk, off, none⟩) 2 cap) ∧ x.cell? ⟨bk, off, none⟩ = some (.int .u8 ka) ∧ x.cell? ⟨bk, off + 1, none⟩ = some (.int .u64 sa) ∧ x.cell? ⟨bk, off + 2, none⟩ = some (.int .u64 sb) ∧ x.cell? ⟨bk, off + 3, none⟩ = some (.int .u64 sc) ∧ x.cell? ⟨bk, off + 4, none⟩ = some (.int .u64 sd) ∧ x.cell? ⟨bk, off + 5, none⟩ = some (.slice al0 ksa.length cap0) ∧ x.cell? ⟨bk, off + 6, none⟩ = some (.int .u8 kb) ∧ x.cell? ⟨bk, off + 6 + 1, none⟩ = some (.int .u64 ta) ∧ x.cell? ⟨bk, off + 6 + 2, none⟩ = some (.int .u64 tb) ∧ x.cell? ⟨bk, off + 6 + 3, none⟩ = some (.int .u64 tc) ∧ x.cell? ⟨bk, off + 6 + 4, none⟩ = some (.int .u64 td) ∧ x.cell? ⟨bk, off + 6 + 5, none⟩ = some (.slice al1 ksb.length cap1)) ∧ Below (w.heap.size + 1) W x from by
        have hwx := HR.out.2.2.trans (hx.mono (Nat.le_succ _))
        obtain ⟨-, -, -, -, -, x5, -⟩ := cellsR ((hx.block _ (Nat.lt_succ_self _)).trans HR.out.1)
        have e0 := (hwx.cell (p := ⟨bk, off, none⟩) hlt).trans c0
        have e1 := (hwx.cell (p := ⟨bk, off + 1, none⟩) hlt).trans c1
        have e2 := (hwx.cell (p := ⟨bk, off + 2, none⟩) hlt).trans c2
        have e3 := (hwx.cell (p := ⟨bk, off + 3, none⟩) hlt).trans c3
        have e4 := (hwx.cell (p := ⟨bk, off + 4, none⟩) hlt).trans c4
        have e5 := (hwx.cell (p := ⟨bk, off + 5, none⟩) hlt).trans c5
        have g0 := (hwx.cell (p := ⟨bk, off + 6, none⟩) hlt).trans d0
        have g1 := (hwx.cell (p := ⟨bk, off + 6 + 1, none⟩) hlt).trans d1
        have g2 := (hwx.cell (p := ⟨bk, off + 6 + 2, none⟩) hlt).trans d2
        have g3 := (hwx.cell (p := ⟨bk, off + 6 + 3, none⟩) hlt).trans d3
        have g4 := (hwx.cell (p := ⟨bk, off + 6 + 4, none⟩) hlt).trans d4
        have g5 := (hwx.cell (p := ⟨bk, off + 6 + 5, none⟩) hlt).trans d5
        exact ⟨⟨x5, e0, e1, e2, e3, e4, e5, g0, g1, g2, g3, g4, g5⟩, hx⟩
      clear c0 c1 c2 c3 c4 c5 d0 d1 d2 d3 d4 d5 hra hrb
      have hW1 := ((Below.refl W.heap.size W).alloc (Nat.le_refl _) (.cells #[.bool false, .int .u64 0, .int .u64 0, .int .u64 0, .int .u64 0] 64)).drew
      have hW2 := (bel2 (Below.refl W.heap.size W) (.cells #[.bool false, .int .u64 0, .int .u64 0, .int .u64 0, .int .u64 0] 64) (.cells #[.bool false, .int .u64 0, .int .u64 0, .int .u64 0, .int .u64 0] 64)).drew
      have hV1 := hW1.mono hlb
      have hV2 := hW2.mono hlb
      go_cut [3, 4] from 30 to 39 (fun s u wc => AltBg W na nb ⟨fa0, fa1, fa2, fa3⟩ ⟨fb0, fb1, fb2, fb3⟩ s u wc)
      case first =>
        go_region_held3 (fun x => (x.cell? ⟨w.heap.size, 5, none⟩ = some (.slice (some ⟨bk, off, none⟩) 2 cap) ∧ x.cell? ⟨bk, off, none⟩ = some (.int .u8 ka) ∧ x.cell? ⟨bk, off + 1, none⟩ = some (.int .u64 sa) ∧ x.cell? ⟨bk, off + 2, none⟩ = some (.int .u64 sb) ∧ x.cell? ⟨bk, off + 3, none⟩ = some (.int .u64 sc) ∧ x.cell? ⟨bk, off + 4, none⟩ = some (.int .u64 sd) ∧ x.cell? ⟨bk, off + 5, none⟩ = some (.slice al0 ksa.length cap0) ∧ x.cell? ⟨bk, off + 6, none⟩ = some (.int .u8 kb) ∧ x.cell? ⟨bk, off + 6 + 1, none⟩ = some (.int .u64 ta) ∧ x.cell? ⟨bk, off + 6 + 2, none⟩ = some (.int .u64 tb) ∧ x.cell? ⟨bk, off + 6 + 3, none⟩ = some (.int .u64 tc) ∧ x.cell? ⟨bk, off + 6 + 4, none⟩ = some (.int .u64 td) ∧ x.cell? ⟨bk, off + 6 + 5, none⟩ = some (.slice al1 ksb.length cap1)) ∧ Below (w.heap.size + 1) W x)
          (first | (with_reducible exact KEEP.out _ hV0) | (with_reducible exact KEEP.out _ hV1) | (with_reducible exact KEEP.out _ hV2) | (with_reducible exact KEEP.out _ hVa) | (with_reducible exact KEEP.out _ hVa1) | (with_reducible exact KEEP.out _ hVa2) | (with_reducible exact KEEP.out _ hVb) | (with_reducible exact KEEP.out _ hVb1) | (with_reducible exact KEEP.out _ hVb2) | (with_reducible exact KEEP.out _ ((bel1 hWb _).mono hlb)) | (with_reducible exact KEEP.out _ ((bel2 hWb _ _).mono hlb)) | (with_reducible exact KEEP.out _ (belowG hVb gq1 _ _ _ _ _)) | (with_reducible exact KEEP.out _ (belowG hVb gq2 _ _ _ _ _)) | (with_reducible exact KEEP.out _ (belGA hWb hlb gq1 _ _ _ _ _ _)) | (with_reducible exact KEEP.out _ (belGG hWb hlb gq1 gq2 _ _ _ _ _ _ _ _ _ _)) | (with_reducible exact KEEP.out _ (belGG hWb hlb gq2 gq1 _ _ _ _ _ _ _ _ _ _)))
          (first
          | (go_at_call 39; (with_reducible refine (HA.out _ _ (RA.out _ hV0)).mono ?_); (rintro e wa ⟨rfl, hba⟩); (with_reducible have hWa := hW0.trans (hba.mono hW0.size)); (have hVa := hWa.mono hlb); (have hVa1 := (hWa.alloc hWa.size (.cells #[.bool false, .int .u64 0, .int .u64 0, .int .u64 0, .int .u64 0] 64)).mono hlb); (have hVa2 := (bel2 hWa (.cells #[.bool false, .int .u64 0, .int .u64 0, .int .u64 0, .int .u64 0] 64) (.cells #[.bool false, .int .u64 0, .int .u64 0, .int .u64 0, .int .u64 0] 64)).mono hlb))
          | (go_at_call 39; (with_reducible refine (HA.out _ _ (RA.out _ hV1)).mono ?_); (rintro e wa ⟨rfl, hba⟩); (with_reducible have hWa := hW1.trans (hba.mono hW1.size)); (have z1 := zer1 hba); (have hVa := hWa.mono hlb); (have hVa1 := (hWa.alloc hWa.size (.cells #[.bool false, .int .u64 0, .int .u64 0, .int .u64 0, .int .u64 0] 64)).mono hlb))
          | (go_at_call 39; (with_reducible refine (HA.out _ _ (RA.out _ hV2)).mono ?_); (rintro e wa ⟨rfl, hba⟩); (with_reducible have hWa := hW2.trans (hba.mono hW2.size)); (obtain ⟨z1, z2⟩ := zer2 hba); (have hVa := hWa.mono hlb))
          | (go_at_call 39; (with_reducible refine (HB.out _ _ (RB.out _ hVa)).mono ?_); (rintro e wb ⟨rfl, hbb⟩); (with_reducible have hWb := hWa.trans (hbb.mono hWa.size)); (have q1 := z1.below hbb z1.lt); (have gq1 := hlb); (have q2 := z2.below hbb z2.lt); (have gq2 := Nat.le_succ_of_le hlb); (have hq1 := Nat.le_refl W.heap.size); (have hq2 := Nat.le_succ W.heap.size); (have n12 := Nat.ne_of_lt (Nat.lt_succ_self W.heap.size)); (have hVb := hWb.mono hlb); (obtain ⟨⟨m10, m11, m12, m13, m14⟩, k10, k11, k12, k13, k14⟩ := q1.all); (simp only [Ws.nil] at m10 m11 m12 m13 m14); (have lq1 := q1.lt); (obtain ⟨⟨m20, m21, m22, m23, m24⟩, k20, k21, k22, k23, k24⟩ := q2.all); (simp only [Ws.nil] at m20 m21 m22 m23 m24); (have lq2 := q2.lt))
          | (go_at_call 39; (with_reducible refine (HB.out _ _ (RB.out _ hVa)).mono ?_); (rintro e wb ⟨rfl, hbb⟩); (with_reducible have hWb := hWa.trans (hbb.mono hWa.size)); (have q1 := z1.below hbb z1.lt); (have gq1 := hlb); (have hq1 := Nat.le_refl W.heap.size); (have hVb := hWb.mono hlb); (have hVb1 := (hWb.alloc hWb.size (.cells #[.bool false, .int .u64 0, .int .u64 0, .int .u64 0, .int .u64 0] 64)).mono hlb); (obtain ⟨⟨m10, m11, m12, m13, m14⟩, k10, k11, k12, k13, k14⟩ := q1.all); (simp only [Ws.nil] at m10 m11 m12 m13 m14); (have lq1 := q1.lt))
          | (go_at_call 39; (with_reducible refine (HB.out _ _ (RB.out _ hVa)).mono ?_); (rintro e wb ⟨rfl, hbb⟩); (with_reducible have hWb := hWa.trans (hbb.mono hWa.size)); (have hVb := hWb.mono hlb); (have hVb1 := (hWb.alloc hWb.size (.cells #[.bool false, .int .u64 0, .int .u64 0, .int .u64 0, .int .u64 0] 64)).mono hlb); (have hVb2 := (bel2 hWb (.cells #[.bool false, .int .u64 0, .int .u64 0, .int .u64 0, .int .u64 0] 64) (.cells #[.bool false, .int .u64 0, .int .u64 0, .int .u64 0, .int .u64 0] 64)).mono hlb))
          | (go_at_call 39; (with_reducible refine (HB.out _ _ (RB.out _ hVa1)).mono ?_); (rintro e wb ⟨rfl, hbb⟩); (with_reducible have hWb := belT1 hWa hbb); (have q1 := zkeep z1 hbb); (have q2 := zer1' hbb); (have gq1 := hlb); (have gq2 := Nat.le_trans hlb hWa.size); (have hq1 := Nat.le_refl W.heap.size); (have hq2 := hWa.size); (have n12 := Nat.ne_of_lt z1.lt); (have nz := Nat.ne_of_lt z1.lt); (have nz2 := Ne.symm nz); (have hVb := hWb.mono hlb); (obtain ⟨⟨m10, m11, m12, m13, m14⟩, k10, k11, k12, k13, k14⟩ := q1.all); (simp only [Ws.nil] at m10 m11 m12 m13 m14); (have lq1 := q1.lt); (obtain ⟨⟨m20, m21, m22, m23, m24⟩, k20, k21, k22, k23, k24⟩ := q2.all); (simp only [Ws.nil] at m20 m21 m22 m23 m24); (have lq2 := q2.lt))
          | (go_at_call 39; (with_reducible refine (HB.out _ _ (RB.out _ hVa1)).mono ?_); (rintro e wb ⟨rfl, hbb⟩); (with_reducible have hWb := belT1 hWa hbb); (have q1 := zer1' hbb); (have gq1 := Nat.le_trans hlb hWa.size); (have hq1 := hWa.size); (have hVb := hWb.mono hlb); (have hVb1 := (hWb.alloc hWb.size (.cells #[.bool false, .int .u64 0, .int .u64 0, .int .u64 0, .int .u64 0] 64)).mono hlb); (obtain ⟨⟨m10, m11, m12, m13, m14⟩, k10, k11, k12, k13, k14⟩ := q1.all); (simp only [Ws.nil] at m10 m11 m12 m13 m14); (have lq1 := q1.lt))
          | (go_at_call 39; (with_reducible refine (HB.out _ _ (RB.out _ hVa2)).mono ?_); (rintro e wb ⟨rfl, hbb⟩); (with_reducible have hWb := belT2 hWa hbb); (obtain ⟨q1, q2⟩ := zer2' hbb); (have gq1 := Nat.le_trans hlb hWa.size); (have gq2 := Nat.le_succ_of_le (Nat.le_trans hlb hWa.size)); (have hq1 := hWa.size); (have hq2 := Nat.le_succ_of_le hWa.size); (have n12 := Nat.ne_of_lt (Nat.lt_succ_self wa.heap.size)); (have hVb := hWb.mono hlb); (obtain ⟨⟨m10, m11, m12, m13, m14⟩, k10, k11, k12, k13, k14⟩ := q1.all); (simp only [Ws.nil] at m10 m11 m12 m13 m14); (have lq1 := q1.lt); (obtain ⟨⟨m20, m21, m22, m23, m24⟩, k20, k21, k22, k23, k24⟩ := q2.all); (simp only [Ws.nil] at m20 m21 m22 m23 m24); (have lq2 := q2.lt))
          | fail)
        all_goals (go_wp2_with fail; go_meet; first
          | (with_reducible exact altOO q1 q2 n12 hq1 hq2 hWb)
          | (with_reducible exact altOO q2 q1 (Ne.symm n12) hq2 hq1 hWb)
          | (with_reducible exact altON q1 rfl hq1 hWb)
          | (with_reducible exact altNO q1 rfl hq1 hWb)
          | (with_reducible exact altNN hWb)
          | (with_reducible exact altNN' hWb)
          | trace_state)
      case rest =>
        obtain ⟨ga, gb, rfl, rfl, hga, hgb, lga, lgb, hbc⟩ := hcut
        obtain ⟨w1, hw1⟩ : ∃ x, x = wc := ⟨_, rfl⟩
        subst hw1
        have HR1 := Lib.hid (HR.out.go hbc)
        have HGA := Lib.hid hga
        have HGB := Lib.hid hgb
        have hWs : w.heap.size + 1 < W.heap.size := HR.out.2.1.lt
        have na1 : ga ≠ w.heap.size + 1 := by omega
        have nb1 : gb ≠ w.heap.size + 1 := by omega
        clear hga hgb hbc lga lgb hWs hlb HR RA RB KEEP HA HB HN0 HN1 hV0 hV1 hV2 hW0 hW1 hW2 HW
        have hW0 := (Below.refl w1.heap.size w1).drew
        have hW1 := ((Below.refl w1.heap.size w1).alloc (Nat.le_refl _) (.cells #[.int .u64 fa0, .int .u64 fa1, .int .u64 fa2, .int .u64 fa3, .int .u64 fb0, .int .u64 fb1, .int .u64 fb2, .int .u64 fb3] 24)).drew
        have hV0 := Kpt.of (g := w.heap.size + 1) hW0
        have hV1 := Kpt.of (g := w.heap.size + 1) hW1
        have HSW := Lib.hid (show SetsAt (w1.alloc (.cells #[.int .u64 fa0, .int .u64 fa1, .int .u64 fa2, .int .u64 fa3, .int .u64 fb0, .int .u64 fb1, .int .u64 fb2, .int .u64 fb3] 24)).drew (some ⟨w1.heap.size, 0, none⟩) [⟨fa0, fa1, fa2, fa3⟩, ⟨fb0, fb1, fb2, fb3⟩] from HS.out _ _ (blk_new w1 _))
        cases na with
        | false =>
          have KEEP := Lib.hid fun x (hx : Kpt (w.heap.size + 1) w1 x) => show (x.cell? ⟨ga, 0, none⟩ = some (.bool false) ∧ x.cell? ⟨ga, 1, none⟩ = some (.int .u64 fa0) ∧ x.cell? ⟨ga, 2, none⟩ = some (.int .u64 fa1) ∧ x.cell? ⟨ga, 3, none⟩ = some (.int .u64 fa2) ∧ x.cell? ⟨ga, 4, none⟩ = some (.int .u64 fa3) ∧ x.cell? ⟨gb, 0, none⟩ = some (.bool nb) ∧ x.cell? ⟨gb, 1, none⟩ = some (.int .u64 fb0) ∧ x.cell? ⟨gb, 2, none⟩ = some (.int .u64 fb1) ∧ x.cell? ⟨gb, 3, none⟩ = some (.int .u64 fb2) ∧ x.cell? ⟨gb, 4, none⟩ = some (.int .u64 fb3)) ∧ Kpt (w.heap.size + 1) w1 x from by
            obtain ⟨⟨a0, a1, a2, a3, a4⟩, -⟩ := (HGA.out.kp hx na1).all
            obtain ⟨⟨b0, b1, b2, b3, b4⟩, -⟩ := (HGB.out.kp hx nb1).all
            exact ⟨⟨a0, a1, a2, a3, a4, b0, b1, b2, b3, b4⟩, hx⟩
          go_wp2_with fail
          go_region_held3 (fun x => (x.cell? ⟨ga, 0, none⟩ = some (.bool false) ∧ x.cell? ⟨ga, 1, none⟩ = some (.int .u64 fa0) ∧ x.cell? ⟨ga, 2, none⟩ = some (.int .u64 fa1) ∧ x.cell? ⟨ga, 3, none⟩ = some (.int .u64 fa2) ∧ x.cell? ⟨ga, 4, none⟩ = some (.int .u64 fa3) ∧ x.cell? ⟨gb, 0, none⟩ = some (.bool nb) ∧ x.cell? ⟨gb, 1, none⟩ = some (.int .u64 fb0) ∧ x.cell? ⟨gb, 2, none⟩ = some (.int .u64 fb1) ∧ x.cell? ⟨gb, 3, none⟩ = some (.int .u64 fb2) ∧ x.cell? ⟨gb, 4, none⟩ = some (.int .u64 fb3)) ∧ Kpt (w.heap.size + 1) w1 x)
            (first | (with_reducible exact KEEP.out _ hV0) | (with_reducible exact KEEP.out _ hV1) | (with_reducible exact KEEP.out _ hV2) | (with_reducible exact KEEP.out _ hV3))
            (first
            | (go_at_call 59; (with_reducible refine (KJ.out _ _ _ HSW.out).mono ?_); (rintro e w2 ⟨rfl, hb2⟩); (with_reducible have hW2 := hW1.trans (hb2.mono hW1.size)); (have hV2 := Kpt.of (g := w.heap.size + 1) hW2); (have hV3 := hV2.put (.bool nb) (.int .u64 j0) (.int .u64 j1) (.int .u64 j2) (.int .u64 j3)); (have hR2 := HR1.out.go hW2); (obtain ⟨⟨s0, s1, s2, s3, s4⟩, g0, g1, g2, g3, g4⟩ := hR2.2.1.all); (simp only [Ws.nil] at s0 s1 s2 s3 s4))
            | fail)
          all_goals
            go_wp2
            exact ret_bg (hR2.2.1.put nb j0 j1 j2 j3) Tryz.results39 rfl rfl ⟨rfl, belowG hR2.2.2 (by omega) _ _ _ _ _⟩
        | true =>
          have KEEP := Lib.hid fun x (hx : Kpt (w.heap.size + 1) w1 x) => show (x.cell? ⟨ga, 0, none⟩ = some (.bool true) ∧ x.cell? ⟨ga, 1, none⟩ = some (.int .u64 fa0) ∧ x.cell? ⟨ga, 2, none⟩ = some (.int .u64 fa1) ∧ x.cell? ⟨ga, 3, none⟩ = some (.int .u64 fa2) ∧ x.cell? ⟨ga, 4, none⟩ = some (.int .u64 fa3) ∧ x.cell? ⟨gb, 1, none⟩ = some (.int .u64 fb0) ∧ x.cell? ⟨gb, 2, none⟩ = some (.int .u64 fb1) ∧ x.cell? ⟨gb, 3, none⟩ = some (.int .u64 fb2) ∧ x.cell? ⟨gb, 4, none⟩ = some (.int .u64 fb3)) ∧ Kpt (w.heap.size + 1) w1 x from by
            obtain ⟨⟨a0, a1, a2, a3, a4⟩, -⟩ := (HGA.out.kp hx na1).all
            obtain ⟨⟨-, b1, b2, b3, b4⟩, -⟩ := (HGB.out.kp hx nb1).all
            exact ⟨⟨a0, a1, a2, a3, a4, b1, b2, b3, b4⟩, hx⟩
          go_wp2_with fail
          refine wp_region_held_drew (S := fun x => (x.cell? ⟨ga, 0, none⟩ = some (.bool true) ∧ x.cell? ⟨ga, 1, none⟩ = some (.int .u64 fa0) ∧ x.cell? ⟨ga, 2, none⟩ = some (.int .u64 fa1) ∧ x.cell? ⟨ga, 3, none⟩ = some (.int .u64 fa2) ∧ x.cell? ⟨ga, 4, none⟩ = some (.int .u64 fa3) ∧ x.cell? ⟨gb, 1, none⟩ = some (.int .u64 fb0) ∧ x.cell? ⟨gb, 2, none⟩ = some (.int .u64 fb1) ∧ x.cell? ⟨gb, 3, none⟩ = some (.int .u64 fb2) ∧ x.cell? ⟨gb, 4, none⟩ = some (.int .u64 fb3)) ∧ Kpt (w.heap.size + 1) w1 x) (by kernel_rfl) (KEEP.out _ hV0) (fun hHeld => ?_)
          refine wpAnyH_take (i := 0) (v := ?_) rfl (by kernel_rfl) (by kernel_rfl) (by kernel_rfl) (fun _ _ _ h => h) (Or.inl ⟨by rfl, ?_⟩) hHeld ?_
          rotate_left
          · (intro w hSw; go_simp; try with_reducible rfl)
          simp only [Act.put, List.setIfInBounds_toArray]
          refine wpAnyH_take (i := 1) (v := ?_) rfl (by kernel_rfl) (by kernel_rfl) (by kernel_rfl) (fun _ _ _ h => h) (Or.inl ⟨by rfl, ?_⟩) hHeld ?_
          rotate_left
          · (intro w hSw; go_simp; try with_reducible rfl)
          simp only [Act.put]
          refine wpAnyH_take (i := 2) (v := ?_) rfl (by kernel_rfl) (by kernel_rfl) (by kernel_rfl) (fun _ _ _ h => h) (Or.inl ⟨by rfl, ?_⟩) hHeld ?_
          rotate_left
          · (intro w hSw; go_simp; try with_reducible rfl)
          simp only [Act.put]
          refine wpAnyH_take (i := 3) (v := undef) rfl (by kernel_rfl) (by kernel_rfl) (by kernel_rfl) (fun _ _ _ h => h) (Or.inr ⟨by rfl, rfl⟩) hHeld ?_
          simp only [Act.put]
          refine wpAnyH_take (i := 4) (v := undef) rfl (by kernel_rfl) (by kernel_rfl) (by kernel_rfl) (fun _ _ _ h => h) (Or.inr ⟨by rfl, rfl⟩) hHeld ?_
          simp only [Act.put]
          refine wpAnyH_take (i := 5) (v := ?_) rfl (by kernel_rfl) (by kernel_rfl) (by kernel_rfl) (fun _ _ _ h => h) (Or.inl ⟨by rfl, ?_⟩) hHeld ?_
          rotate_left
          · (intro w hSw; go_simp; try with_reducible rfl)
          simp only [Act.put]
          refine wpAnyH_take (i := 6) (v := ?_) rfl (by kernel_rfl) (by kernel_rfl) (by kernel_rfl) (fun _ _ _ h => h) (Or.inl ⟨by rfl, ?_⟩) hHeld ?_
          rotate_left
          · (intro w hSw; go_simp; try with_reducible rfl)
          simp only [Act.put]
          refine wpAnyH_take (i := 7) (v := ?_) rfl (by kernel_rfl) (by kernel_rfl) (by kernel_rfl) (fun _ _ _ h => h) (Or.inl ⟨by rfl, ?_⟩) hHeld ?_
          rotate_left
          · (intro w hSw; go_simp; try with_reducible rfl)
          simp only [Act.put]
          refine wpAnyH_take (i := 8) (v := ?_) rfl (by kernel_rfl) (by kernel_rfl) (by kernel_rfl) (fun _ _ _ h => h) (Or.inl ⟨by rfl, ?_⟩) hHeld ?_
          rotate_left
          · (intro w hSw; go_simp; try with_reducible rfl)
          simp only [Act.put]
          refine wpAnyH_take (i := 9) (v := ?_) rfl (by kernel_rfl) (by kernel_rfl) (by kernel_rfl) (fun _ _ _ h => h) (Or.inl ⟨by rfl, ?_⟩) hHeld ?_
          rotate_left
          · (intro w hSw; go_simp; try with_reducible rfl)
          simp only [Act.put]
          refine wpAnyH_ready (rs := [10]) (by kernel_rfl) (by simp) ?_
          refine AllReadyH.cons rfl (fun K hK => ?_) AllReadyH.nil
          go_simp
          refine hK.out _ _ (KEEP.out _ hV1) (fun hHeld => ?_)
          clear hK K
          refine wpAnyH_ready (rs := [11]) (by kernel_rfl) (by simp) ?_
          refine AllReadyH.cons rfl (fun K hK => ?_) AllReadyH.nil
          go_simp
          go_at_call 59
          refine (KJ.out _ _ _ HSW.out).mono ?_
          rintro e w2 ⟨rfl, hb2⟩
          have hW2 := hW1.trans (hb2.mono hW1.size)
          have hV2 := Kpt.of (g := w.heap.size + 1) hW2
          have hV3 := hV2.put (.bool true) (.int .u64 j0) (.int .u64 j1) (.int .u64 j2) (.int .u64 j3)
          have hR2 := HR1.out.go hW2
          obtain ⟨⟨s0, s1, s2, s3, s4⟩, g0, g1, g2, g3, g4⟩ := hR2.2.1.all
          simp only [Ws.nil] at s0 s1 s2 s3 s4
          refine hK.out _ _ (KEEP.out _ hV2) (fun hHeld => ?_)
          clear hK K
          refine wpAnyH_take (i := 12) (v := ?_) rfl (by kernel_rfl) (by kernel_rfl) (by kernel_rfl) (fun _ _ _ h => h) (Or.inl ⟨by rfl, ?_⟩) hHeld ?_
          rotate_left
          · (intro w hSw; go_simp; try with_reducible rfl)
          simp only [Act.put]
          refine wpAnyH_ready (rs := [13]) (by kernel_rfl) (by simp) ?_
          refine AllReadyH.cons rfl (fun K hK => ?_) AllReadyH.nil
          go_simp
          refine hK.out _ _ (KEEP.out _ hV3) (fun hHeld => ?_)
          refine wpAnyH_done (by kernel_rfl) ?_ _
          go_wp2
          exact ret_bg (hR2.2.1.put true j0 j1 j2 j3) Tryz.results39 rfl rfl ⟨rfl, belowG hR2.2.2 (by omega) _ _ _ _ _⟩
open Go.RowKit
set_option maxHeartbeats 2000000 in
set_option maxRecDepth 100000 in
theorem nullCl_any {ok : Nat → Prop} (r : Rx) (v : Value) (w : World) (h : ReAt ok w v r) :
    Calls Tryz.prog 38 #[v] w fun e w' => e = .returned (.bool (!nulX r)) ∧ Below w.heap.size w w' := by
  obtain ⟨x0, x1, x2, x3, x4, xl, xn, xc, rfl⟩ := cells_re h
  have hb0 := (Below.refl _ w).alloc (Nat.le_refl _) (.cells #[.int .u8 x0, .int .u64 x1, .int .u64 x2, .int .u64 x3, .int .u64 x4, .slice xl xn xc] 27)
  have HX := Lib.hid (blk_new w (.cells #[.int .u8 x0, .int .u64 x1, .int .u64 x2, .int .u64 x3, .int .u64 x4, .slice xl xn xc] 27))
  have hr := row_new (h.below hb0)
  rw [show (w.alloc (.cells #[.int .u8 x0, .int .u64 x1, .int .u64 x2, .int .u64 x3, .int .u64 x4, .slice xl xn xc] 27)).heap.size = w.heap.size + 1 from by simp] at hr
  have HR := Lib.hid hr
  clear hr
  have KM := Lib.hid fun (al : Option Addr) (W : World) (h : RowAt (fun _ => True) W al [r]) => mayX [r] al 1 W (by simp) h
  rw [show [r].length = 1 from rfl] at KM
  have em : [r].all mayR = mayR r := by simp
  rw [em] at KM
  have HB0 := Lib.hid hb0
  have HB1 := Lib.hid (hb0.alloc hb0.size (.cells #[.int .u8 x0, .int .u64 x1, .int .u64 x2, .int .u64 x3, .int .u64 x4, .slice xl xn xc] 27))
  clear em hb0
  cases hm : mayR r with
  | false =>
    have hq : (!nulX r) = true := by unfold nulX; rw [exX_no hm]; rfl
    rw [hq]
    rw [hm] at KM
    clear hm hq h
    go_enter Tryz.func38, Tryz.ntmps38
    go_wp2_with fail
    refine (KM.out _ _ HR.out).mono ?_
    rintro e w1 ⟨rfl, hb1⟩
    go_wp2
    go_ret
    exact ⟨rfl, HB1.out.trans (hb1.mono HB1.out.size)⟩
  | true =>
    obtain ⟨e0, he0, we, hs⟩ := may_ex h hm
    have hq : (!nulX r) = (!e0.nul) := by unfold nulX; rw [← he0, exX_of we hs]; rfl
    rw [hq]
    rw [hm] at KM
    have KN := Lib.hid fun W (hb : Below w.heap.size w W) => begin_any (ok := ok) e0.size e0 (Nat.le_refl _) we (.agg #[.int .u8 x0, .int .u64 x1, .int .u64 x2, .int .u64 x3, .int .u64 x4, .slice xl xn xc]) W (by rw [he0]; exact h.below hb)
    clear hm hq h he0
    generalize e0.nul = na at *
    generalize e0.fst = fa at *
    obtain ⟨fa0, fa1, fa2, fa3⟩ := fa
    unfold bgV at KN 
    simp only at KN 
    go_enter Tryz.func38, Tryz.ntmps38
    go_wp2_with fail
    refine (KM.out _ _ HR.out).mono ?_
    rintro e w1 ⟨rfl, hb1⟩
    have hbw := HB1.out.trans (hb1.mono HB1.out.size)
    obtain ⟨c0, c1, c2, c3, c4, c5, -⟩ := cellsR ((hb1.block w.heap.size (by simp; omega)).trans ((Below.heap_alloc _ _ _ (by simp)).trans HX.out))
    clear hb1
    go_wp2_with fail
    refine (KN.out _ hbw).mono ?_
    rintro e w2 ⟨rfl, hb2⟩
    have hbw2 := hbw.trans (hb2.mono hbw.size)
    clear hb2 c0 c1 c2 c3 c4 c5
    have hf0 := fld0 na fa0 fa1 fa2 fa3
    go_wp2
    go_ret
    exact ⟨rfl, hbw2⟩
def idxInvN (l : List Rx) (w : World) (y : Value) (wr : World) : Prop := ∃ i : Nat, i ≤ l.length ∧ y = .int .i64 i ∧ (l.take i).all nulX = true ∧ Below w.heap.size w wr
def IdxPostN (q : Bool) (w : World) (e : Ending) (w' : World) : Prop := ∃ x : Int, decide (0 ≤ x) = !q ∧ e = .returned (.int .i64 x) ∧ Below w.heap.size w w'
set_option maxHeartbeats 4000000 in
theorem indexN_any {ok : Nat → Prop} (l : List Rx) (al : Option Addr) (cap : Nat) (w : World) (hl : l.length < 2199023255552) (hR : RowAt ok w al l) :
    Calls Tryz.prog 57 #[.slice al l.length cap, .func (.func 38) #[] #[]] w (IdxPostN (l.all nulX) w) := by
  have HR := Lib.hid hR
  clear hR
  go_enter Tryz.func57, Tryz.ntmps57
  go_wp2
  go_loopw [8] (fun y wr => idxInvN l w y wr) (fun y _ => l.length - (intOf y).toNat)
  case atStart => exact ⟨0, Nat.zero_le _, rfl, by simp, Below.refl _ _⟩
  case round =>
    obtain ⟨i, hi, rfl, hmay, hb⟩ := hrel
    have HY := Lib.hid hmay
    clear hmay
    by_cases hlt : i < l.length
    · obtain ⟨b, off, hab, hblt, hnode⟩ := HR.out.kid hlt
      subst hab
      have hkid := NodeAt.below hb _ hblt hnode
      have htk : (l.take (i + 1)).all nulX = ((l.take i).all nulX && nulX l[i]) := by
        rw [List.take_succ_eq_append_getElem hlt, List.all_append]; simp
      have hno : nulX l[i] = false → l.all nulX = false := fun h => by
        rw [List.all_eq_false]; exact ⟨l[i], List.getElem_mem hlt, by rw [h]; simp⟩
      clear hnode
      generalize l[i] = kid at *
      obtain ⟨k', ⟨ta, tb, tc, td⟩, ks'⟩ := kid
      obtain ⟨al', cap', ⟨c0, c1, c2, c3, c4, c5⟩, hre⟩ := hkid.read
      simp only at c0 c1 c2 c3 c4 c5
      have K := Lib.hid (nullCl_any _ _ wr hre)
      generalize nulX (Rx.node k' ⟨ta, tb, tc, td⟩ ks') = q at *
      have T1 := Lib.hid htk
      have T2 := Lib.hid hno
      clear hkid hre htk hno
      have q1 : (i : Int) < (l.length : Int) := by omega
      go_wp2_with fail
      refine K.out.mono ?_
      rintro e w1 ⟨rfl, hb1⟩
      replace hb := hb.trans (hb1.mono hb.size)
      clear hb1 c0 c1 c2 c3 c4 c5
      cases q with
      | true =>
        go_wp2
        exact ⟨⟨i + 1, by omega, by go_num, by rw [T1.out, HY.out]; rfl, hb⟩, by simp [intOf]; omega⟩
      | false =>
        go_wp2
        go_ret
        exact ⟨i, by rw [T2.out trivial]; simp, rfl, hb⟩
    · have he : l.take i = l := List.take_of_length_le (by omega)
      rw [he] at HY
      go_wp2
      go_ret
      exact ⟨-1, by rw [HY.out]; rfl, rfl, hb⟩
theorem containsN_any {ok : Nat → Prop} (l : List Rx) (al : Option Addr) (cap : Nat) (w : World) (hl : l.length < 2199023255552) (hR : RowAt ok w al l) :
    Calls Tryz.prog 37 #[.slice al l.length cap, .func (.func 38) #[] #[]] w fun e w' => e = .returned (.bool (!l.all nulX)) ∧ Below w.heap.size w w' := by
  have K := Lib.hid (indexN_any l al cap w hl hR)
  clear hR
  generalize l.all nulX = q at *
  go_enter Tryz.func37, Tryz.ntmps37
  go_wp2_with fail
  refine K.out.mono ?_
  rintro e w1 ⟨x, hx, rfl, hb⟩
  have HX := Lib.hid hx
  clear hx
  go_wp2
  go_ret
  exact ⟨by rw [← HX.out]; rfl, hb⟩
theorem nullX_any {ok : Nat → Prop} (l : List Rx) (al : Option Addr) (cap : Nat) (w : World) (hl : l.length < 2199023255552) (hR : RowAt ok w al l) :
    Calls Tryz.prog 20 #[.slice al l.length cap] w fun e w' => e = .returned (.bool (l.all nulX)) ∧ Below w.heap.size w w' := by
  have K := Lib.hid (containsN_any l al cap w hl hR)
  clear hR
  skip
  generalize l.all nulX = q at *
  go_enter Tryz.func20, Tryz.ntmps20
  go_wp2_with fail
  refine K.out.mono ?_
  rintro e w1 ⟨rfl, hb⟩
  go_wp2
  go_ret
  exact ⟨by simp, hb⟩
open Go.RowKit
theorem nul_one {e : Ex} (we : e.Wf) (hs : e.size ≤ 2000) (g : Nat) (W : World) (h : RowAt (fun _ => True) W (some ⟨g, 0, none⟩) [e.rx]) : Calls Tryz.prog 20 #[.slice (some ⟨g, 0, none⟩) 1 1] W fun x w' => x = .returned (.bool e.nul) ∧ Below W.heap.size W w' := by
  have := nullX_any [e.rx] (some ⟨g, 0, none⟩) 1 W (by simp) h
  simp only [List.all_cons, List.all_nil, Bool.and_true, nulX, exX_of we hs] at this
  exact this
set_option maxHeartbeats 4000000 in
set_option maxRecDepth 100000 in
theorem ofSeq_of {c : UInt8} {e1 e2 : Ex} (ih1 : DvC c e1) (ih2 : DvC c e2) (we : e1.Wf) (hs : e1.size ≤ 2000) : OsC c e1 e2 := by
  intro ok v u w h h'
  obtain ⟨n, hnc, hn⟩ := u8_num c
  unfold DvC at ih1 ih2
  rw [← hnc] at ih1 ih2 ⊢
  obtain ⟨res, hres⟩ : ∃ z, z = derE c (.seq e1 e2) := ⟨_, rfl⟩
  rw [← hres]
  have HRES := Lib.hid (show res = if e1.nul = true then .alt (.seq (derE c e1) e2) (derE c e2) else .seq (derE c e1) e2 from hres)
  have IX := Lib.hid fun W v (h : ReAt ok W v e1.rx) => ih1 ok v W h
  have IY := Lib.hid fun W v (h : ReAt ok W v e2.rx) => ih2 ok v W h
  have KN := Lib.hid fun g W (h : RowAt (fun _ => True) W (some ⟨g, 0, none⟩) [e1.rx]) => nul_one we hs g W h
  obtain ⟨x0, x1, x2, x3, x4, xl, xn, xc, rfl⟩ := cells_re h
  obtain ⟨z0, z1, z2, z3, z4, zl, zn, zc, rfl⟩ := cells_re h'
  have HA := Lib.hid h
  have HB := Lib.hid h'
  have B := Lib.hid (Bn2.new w (.cells #[.int .u8 x0, .int .u64 x1, .int .u64 x2, .int .u64 x3, .int .u64 x4, .slice xl xn xc] 27) (.cells #[.int .u8 z0, .int .u64 z1, .int .u64 z2, .int .u64 z3, .int .u64 z4, .slice zl zn zc] 27))
  clear hres h h' ih1 ih2 hnc we hs
  go_enter Tryz.func67, Tryz.ntmps67
  go_wp2_with fail
  obtain ⟨W, hW⟩ : ∃ x, x = ((w.alloc (.cells #[.int .u8 x0, .int .u64 x1, .int .u64 x2, .int .u64 x3, .int .u64 x4, .slice xl xn xc] 27)).alloc (.cells #[.int .u8 z0, .int .u64 z1, .int .u64 z2, .int .u64 z3, .int .u64 z4, .slice zl zn zc] 27)).alloc (.cells #[.int .u8 0, .int .u64 0, .int .u64 0, .int .u64 0, .int .u64 0, .slice none 0 0] 27) := ⟨_, rfl⟩
  rw [← hW] at B ⊢
  clear hW
  have BW := Lib.hid B.out
  clear B
  have WB := Lib.hid fun x (hx : Below W.heap.size W x) => (BW.out.go hx).2.2.2
  have CX := Lib.hid fun x (hx : Below W.heap.size W x) => cellsR (BW.out.go hx).1
  have CY := Lib.hid fun x (hx : Below W.heap.size W x) => cellsR (BW.out.go hx).2.1
  have HX := Lib.hid fun x (hx : Below W.heap.size W x) => HA.out.below (WB.out x hx)
  have HY := Lib.hid fun x (hx : Below W.heap.size W x) => HB.out.below (WB.out x hx)
  have HYW := Lib.hid fun x (hx : Below W.heap.size W x) => (HY.out x hx).imp (ok' := okN ok w.heap.size) fun _ _ h => Or.inl h
  refine wp_region_orderT 6 (fun i => ([SP.eq (.agg #[.int .u8 x0, .int .u64 x1, .int .u64 x2, .int .u64 x3, .int .u64 x4, .slice xl xn xc]), SP.eq (.int .u8 n), SP.ex (okN ok w.heap.size) (derE c e1), SP.eq (.agg #[.int .u8 z0, .int .u64 z1, .int .u64 z2, .int .u64 z3, .int .u64 z4, .slice zl zn zc]), SP.ex (okN ok w.heap.size) (.seq (derE c e1) e2), SP.vz W.heap.size] : List SP).getD i SP.free) (fun _ => false) (fun _ _ _ h => by cases h) (by kernel_rfl) (by kernel_rfl) ⟨?_, ?_, ?_, ?_, ?_, ?_, trivial⟩ ?_
  · intro a x K out get hb hK
    rw [if_pos (wanted_none rfl)]
    have o3 : a.tmps[3]? = some (.pointer (some ⟨w.heap.size, 0, none⟩)) := out 3 (by kernel_rfl)
    clear out get
    obtain ⟨c0, c1, c2, c3, c4, c5, -⟩ := CX.out x hb
    go_simp
    exact hK _ _ rfl (Below.refl _ _) (fun h => by cases h)
  · intro a x K out get hb hK
    rw [if_pos (wanted_none rfl)]
    have o2 : a.tmps[2]? = some (.int .u8 n) := out 2 (by kernel_rfl)
    clear out get
    go_simp
    exact hK _ _ rfl (Below.refl _ _) (fun h => by cases h)
  · intro a x K out get hb hK
    rw [if_pos (wanted_none rfl)]
    obtain ⟨y8, hy8, rfl⟩ := get 0 _ _ rfl rfl (by kernel_rfl)
    obtain ⟨y9, hy9, rfl⟩ := get 1 _ _ rfl rfl (by kernel_rfl)
    clear out get
    go_simp
    refine (IX.out x _ (HX.out x hb)).mono ?_
    rintro e w2 ⟨v2, rfl, hv2, hb2⟩
    exact hK _ _ (ExV.of (e := derE c e1) hv2 fun _ _ h => okN_up (WB.out x hb).size h) hb2 (fun h => by cases h)
  · intro a x K out get hb hK
    rw [if_pos (wanted_none rfl)]
    have o4 : a.tmps[4]? = some (.pointer (some ⟨w.heap.size + 1, 0, none⟩)) := out 4 (by kernel_rfl)
    clear out get
    obtain ⟨c0, c1, c2, c3, c4, c5, -⟩ := CY.out x hb
    go_simp
    exact hK _ _ rfl (Below.refl _ _) (fun h => by cases h)
  · intro a x K out get hb hK
    rw [if_pos (wanted_none rfl)]
    obtain ⟨y10, hy10, ⟨q0, q1, q2, q3, q4, ql, qn, qc, rfl, hr10⟩⟩ := get 2 _ _ rfl rfl (by kernel_rfl)
    obtain ⟨y11, hy11, rfl⟩ := get 3 _ _ rfl rfl (by kernel_rfl)
    clear out get
    go_simp
    refine (dboth_any 4 _ _ _ _ x (by decide) hr10 (HYW.out x hb)).mono ?_
    rintro e w2 ⟨v2, rfl, hv2, hb2⟩
    exact hK _ _ (ExV.of (e := .seq (derE c e1) e2) hv2 fun _ _ h => okN_in2 (WB.out x hb).size h) hb2 (fun h => by cases h)
  · intro a x K out get hb hK
    rw [if_pos (wanted_none rfl)]
    clear out get
    go_simp
    exact hK _ _ ⟨_, rfl, hb.size, by simp, blk_new _ _⟩ (bel_al _ _) (fun _ => rfl)
  refine ao_finT (isD := fun s => decide (7 ≤ s) && decide (s ≤ 12)) (by kernel_rfl) ?_
  intro f x hv hne hb
  clear hne
  obtain ⟨t0, t1, t2, t3, t4, tl, tn, tc, eL, rL⟩ := hv 4 _ _ (by decide) rfl rfl
  obtain ⟨g7, eG, lG, _, zG⟩ := hv 5 _ _ (by decide) rfl rfl
  have HT0 := Lib.hid (put_ex zG rL)
  have hbT := putB hb lG (.int .u8 t0) (.int .u64 t1) (.int .u64 t2) (.int .u64 t3) (.int .u64 t4) (.slice tl tn tc)
  obtain ⟨c0, c1, c2, c3, c4, c5, f0, f1, f2, f3, f4, f5⟩ := cellsR zG
  clear hv rL zG
  simp only [List.drop_succ_cons, List.drop_zero]
  generalize hF : (Act.mk (List.toArray (frm f _ 0 _)) _) = fr
  simp [frm] at hF
  rw [eL, eG] at hF
  subst hF
  generalize f 8 = u8 at *
  generalize f 9 = u9 at *
  generalize f 10 = u10 at *
  generalize f 11 = u11 at *
  clear eL eG f
  have l0 := (Array.getElem?_eq_some_iff.1 BW.out.2.2.1).1
  have d0 : ¬ g7 = w.heap.size := fun e => by omega
  have d1 : ¬ w.heap.size = g7 := fun e => d0 e.symm
  have BX := Lib.hid (BW.out.go hb)
  obtain ⟨m0, m1, m2, m3, m4, m5, -⟩ := cellsR BX.out.1
  have BT := Lib.hid (show Bn2 w (putW x g7 (.int .u8 t0) (.int .u64 t1) (.int .u64 t2) (.int .u64 t3) (.int .u64 t4) (.slice tl tn tc)) _ _ from BW.out.go hbT)
  have HAT := Lib.hid (HA.out.below BT.out.2.2.2)
  unfold putW at HT0 BT HAT
  clear hb hbT lG CX CY HX HY HYW WB BW l0
  go_wp2_with fail
  obtain ⟨V, hV⟩ : ∃ V, V = ((((((x.setCell ⟨g7, 0, none⟩ (.int .u8 t0)).setCell ⟨g7, 1, none⟩ (.int .u64 t1)).setCell ⟨g7, 2, none⟩ (.int .u64 t2)).setCell ⟨g7, 3, none⟩ (.int .u64 t3)).setCell ⟨g7, 4, none⟩ (.int .u64 t4)).setCell ⟨g7, 5, none⟩ (.slice tl tn tc)) := ⟨_, rfl⟩
  rw [← hV] at HT0 BT HAT
  rw [← hV]
  have hxs : x.heap.size = V.heap.size := by rw [hV]; simp [World.setCell]
  have KN2 := Lib.hid (KN.out x.heap.size (V.alloc (.cells #[.int .u8 x0, .int .u64 x1, .int .u64 x2, .int .u64 x3, .int .u64 x4, .slice xl xn xc] 27)) (row_one (blk_at _ _ hxs) trivial ((HAT.out.below (bel_al _ _)).imp fun _ _ _ => trivial)))
  clear hV hxs KN
  refine KN2.out.mono ?_
  rintro e W ⟨rfl, hb3⟩
  have hbV := Lib.hid ((bel_al V (.cells #[.int .u8 x0, .int .u64 x1, .int .u64 x2, .int .u64 x3, .int .u64 x4, .slice xl xn xc] 27)).trans (hb3.mono (by simp)))
  have BW := Lib.hid (BT.out.go hbV.out)
  have X7 := Lib.hid (show W.heap[g7]? = _ from (hbV.out.block g7 (Array.getElem?_eq_some_iff.1 HT0.out.1).1).trans HT0.out.1)
  have HTW := Lib.hid (HT0.out.2.below hbV.out)
  clear hb3 hbV HT0 BT KN2 HAT c0 c1 c2 c3 c4 c5 f0 f1 f2 f3 f4 f5 m0 m1 m2 m3 m4 m5 d0 d1 BX IX
  have WB := Lib.hid fun x (hx : Below W.heap.size W x) => (BW.out.go hx).2.2.2
  have CX := Lib.hid fun x (hx : Below W.heap.size W x) => cellsR (BW.out.go hx).1
  have CY := Lib.hid fun x (hx : Below W.heap.size W x) => cellsR (BW.out.go hx).2.1
  have HX := Lib.hid fun x (hx : Below W.heap.size W x) => HA.out.below (WB.out x hx)
  have HY := Lib.hid fun x (hx : Below W.heap.size W x) => HB.out.below (WB.out x hx)
  have CT := Lib.hid fun x (hx : Below W.heap.size W x) => cellsR ((hx.block g7 (Array.getElem?_eq_some_iff.1 X7.out).1).trans X7.out)
  have HT := Lib.hid fun x (hx : Below W.heap.size W x) => HTW.out.below hx
  generalize e1.nul = q at *
  cases q with
  | false =>
    obtain rfl : res = .seq (derE c e1) e2 := HRES.out
    obtain ⟨b0, b1, b2, b3, b4, b5, -⟩ := CT.out W (Below.refl _ _)
    obtain ⟨c0, c1, c2, c3, c4, c5, f0, f1, f2, f3, f4, f5⟩ := cellsR BW.out.2.2.1
    go_wp2
    exact ret_ex (e := .seq (derE c e1) e2) BW.out.2.2.1 HTW.out BW.out.2.2.2 (by omega) Tryz.results67 rfl rfl
  | true =>
    obtain rfl : res = .alt (.seq (derE c e1) e2) (derE c e2) := HRES.out
    go_wp2_with fail
    refine wp_region_orderT 5 (fun i => ([SP.eq (.agg #[.int .u8 t0, .int .u64 t1, .int .u64 t2, .int .u64 t3, .int .u64 t4, .slice tl tn tc]), SP.eq (.agg #[.int .u8 z0, .int .u64 z1, .int .u64 z2, .int .u64 z3, .int .u64 z4, .slice zl zn zc]), SP.eq (.int .u8 n), SP.ex (okN ok w.heap.size) (derE c e2), SP.ex (okN ok w.heap.size) (.alt (.seq (derE c e1) e2) (derE c e2))] : List SP).getD i SP.free) (fun _ => false) (fun _ _ _ h => by cases h) (by kernel_rfl) (by kernel_rfl) ⟨?_, ?_, ?_, ?_, ?_, trivial⟩ ?_
    · intro a x K out get hb hK
      rw [if_pos (wanted_none rfl)]
      have o7 : a.tmps[7]? = some (.pointer (some ⟨g7, 0, none⟩)) := out 7 (by kernel_rfl)
      clear out get
      obtain ⟨c0, c1, c2, c3, c4, c5, -⟩ := CT.out x hb
      go_simp
      exact hK _ _ rfl (Below.refl _ _) (fun h => by cases h)
    · intro a x K out get hb hK
      rw [if_pos (wanted_none rfl)]
      have o4 : a.tmps[4]? = some (.pointer (some ⟨w.heap.size + 1, 0, none⟩)) := out 4 (by kernel_rfl)
      clear out get
      obtain ⟨c0, c1, c2, c3, c4, c5, -⟩ := CY.out x hb
      go_simp
      exact hK _ _ rfl (Below.refl _ _) (fun h => by cases h)
    · intro a x K out get hb hK
      rw [if_pos (wanted_none rfl)]
      have o2 : a.tmps[2]? = some (.int .u8 n) := out 2 (by kernel_rfl)
      clear out get
      go_simp
      exact hK _ _ rfl (Below.refl _ _) (fun h => by cases h)
    · intro a x K out get hb hK
      rw [if_pos (wanted_none rfl)]
      obtain ⟨y19, hy19, rfl⟩ := get 1 _ _ rfl rfl (by kernel_rfl)
      obtain ⟨y20, hy20, rfl⟩ := get 2 _ _ rfl rfl (by kernel_rfl)
      clear out get
      go_simp
      refine (IY.out x _ (HY.out x hb)).mono ?_
      rintro e w2 ⟨v2, rfl, hv2, hb2⟩
      exact hK _ _ (ExV.of (e := derE c e2) hv2 fun _ _ h => okN_up (WB.out x hb).size h) hb2 (fun h => by cases h)
    · intro a x K out get hb hK
      rw [if_pos (wanted_none rfl)]
      obtain ⟨y18, hy18, rfl⟩ := get 0 _ _ rfl rfl (by kernel_rfl)
      obtain ⟨y21, hy21, ⟨q0, q1, q2, q3, q4, ql, qn, qc, rfl, hr21⟩⟩ := get 3 _ _ rfl rfl (by kernel_rfl)
      clear out get
      go_simp
      refine (dboth_any 5 _ _ _ _ x (by decide) (HT.out x hb) hr21).mono ?_
      rintro e w2 ⟨v2, rfl, hv2, hb2⟩
      exact hK _ _ (ExV.of (e := .alt (.seq (derE c e1) e2) (derE c e2)) hv2 fun _ _ h => okN_in2 (WB.out x hb).size h) hb2 (fun h => by cases h)
    refine ao_finT (isD := fun s => decide (18 ≤ s) && decide (s ≤ 22)) (by kernel_rfl) ?_
    intro f x hv hne hb
    clear hne
    obtain ⟨r0, r1, r2, r3, r4, rl, rn, rc, eL, rL⟩ := hv 4 _ _ (by decide) rfl rfl
    have B2 := Lib.hid (BW.out.go hb)
    have HV := Lib.hid rL
    obtain ⟨c0, c1, c2, c3, c4, c5, f0, f1, f2, f3, f4, f5⟩ := cellsR B2.out.2.2.1
    clear hv hb rL
    simp only [frm, List.drop_succ_cons, List.drop_zero]
    simp
    rw [eL]
    generalize f 18 = u18 at *
    generalize f 19 = u19 at *
    generalize f 20 = u20 at *
    generalize f 21 = u21 at *
    clear eL f
    go_wp2
    exact ret_ex (e := .alt (.seq (derE c e1) e2) (derE c e2)) B2.out.2.2.1 HV.out B2.out.2.2.2 (by omega) Tryz.results67 rfl rfl
open Go.RowKit
theorem dv_any (c : UInt8) : ∀ e : Ex, e.Wf → e.size ≤ 2000 → DvC c e
  | .empty, _, _ => fun ok v w h => dvempty ok v w h
  | .eps, _, _ => fun ok v w h => dveps ok v w h
  | .cls s, _, _ => fun ok v w h => dvcls s ok v w h
  | .star x, we, hs => fun ok v w h => dvstar (dv_any c x we (by simp only [Ex.size] at hs; omega)) ok v w h
  | .alt x y, we, hs => fun ok v w h => dvalt (dv_any c x we.1 (by simp only [Ex.size] at hs; omega)) (dv_any c y we.2 (by simp only [Ex.size] at hs; omega)) ok v w h
  | .seq x y, we, hs => fun ok v w h => dvseq (ofSeq_of (dv_any c x we.1 (by simp only [Ex.size] at hs; omega)) (dv_any c y we.2 (by simp only [Ex.size] at hs; omega)) we.1 (by simp only [Ex.size] at hs; omega)) ok v w h
theorem mayE {e : Ex} (we : e.Wf) : mayR e.rx = decide (e.size ≤ 2000) := by unfold mayR mayN; rw [good_ex e we, Ex.size_rx, Bool.true_and]
theorem may_one (r : Rx) (g : Nat) (W : World) {ok : Nat → Prop} (h : RowAt ok W (some ⟨g, 0, none⟩) [r]) : Calls Tryz.prog 25 #[.slice (some ⟨g, 0, none⟩) 1 1] W fun x w' => x = .returned (.bool (mayR r)) ∧ Below W.heap.size W w' := by
  have := mayX [r] (some ⟨g, 0, none⟩) 1 W (by simp) h
  simp only [List.all_cons, List.all_nil, Bool.and_true] at this
  exact this
theorem then_one (r : Rx) (g : Nat) (W : World) {ok : Nat → Prop} (h : RowAt ok W (some ⟨g, 0, none⟩) [r]) : Calls Tryz.prog 27 #[.slice (some ⟨g, 0, none⟩) 1 1] W (NewPost r W) :=
  then_any [r] (some ⟨g, 0, none⟩) 1 W (by simp) h
noncomputable def limX (c : UInt8) (e : Ex) : Rx × Nat := if (derE c e).size ≤ 2000 then ((derE c e).rx, 0) else (zeroX, 4)
set_option maxHeartbeats 4000000 in
set_option maxRecDepth 100000 in
theorem limited_any (c : UInt8) (e : Ex) (we : e.Wf) (hs : e.size ≤ 2000) {ok : Nat → Prop} (v : Value) (w : World) (h : ReAt ok w v e.rx) :
    Calls Tryz.prog 26 #[v, .int .u8 c.toNat] w (TwPost ok (limX c e) w) := by
  obtain ⟨n, hnc, hn⟩ := u8_num c
  have KD := Lib.hid fun W (h : ReAt ok W v e.rx) => dv_any c e we hs ok v W h
  rw [← hnc] at KD ⊢
  have hq := mayE (der_wf c e we)
  have hl : limX c e = if decide ((derE c e).size ≤ 2000) = true then ((derE c e).rx, 0) else (zeroX, 4) := by unfold limX; simp only [decide_eq_true_eq]
  rw [hl]
  have KM := Lib.hid fun g W (h : RowAt (fun _ => True) W (some ⟨g, 0, none⟩) [(derE c e).rx]) => may_one (derE c e).rx g W h
  rw [hq] at KM
  obtain ⟨x0, x1, x2, x3, x4, xl, xn, xc, rfl⟩ := cells_re h
  have B := Lib.hid (Bn1.new w (.cells #[.int .u8 x0, .int .u64 x1, .int .u64 x2, .int .u64 x3, .int .u64 x4, .slice xl xn xc] 27))
  have K1 := Lib.hid (KD.out _ (h.below B.out.2.2))
  generalize decide ((derE c e).size ≤ 2000) = q at *
  obtain ⟨res, hres⟩ : ∃ z, z = if q = true then ((derE c e).rx, 0) else (zeroX, 4) := ⟨_, rfl⟩
  rw [← hres]
  have HRES := Lib.hid hres
  clear hres hl hq KD h hnc we hs
  go_enter Tryz.func26, Tryz.ntmps26
  go_wp2_with fail
  refine K1.out.mono ?_
  rintro x w1 ⟨v1, rfl, hv1, hb1⟩
  obtain ⟨p0, p1, p2, p3, p4, pl, pn, pc, rfl⟩ := cells_re hv1
  have B1 := Lib.hid (B.out.go hb1)
  have l0 := (Array.getElem?_eq_some_iff.1 B1.out.2.1).1
  have HV1 := Lib.hid hv1
  clear hv1 hb1 B K1
  go_wp2_with fail
  obtain ⟨V, hV⟩ : ∃ V, V = w1.alloc (.cells #[.int .u8 p0, .int .u64 p1, .int .u64 p2, .int .u64 p3, .int .u64 p4, .slice pl pn pc] 27) := ⟨_, rfl⟩
  obtain ⟨g6, hg6⟩ : ∃ g, g = w1.heap.size := ⟨_, rfl⟩
  have hgs : w1.heap.size + 1 = V.heap.size := by rw [hV]; simp
  have BV := Lib.hid (show Bn1 w V _ from by rw [hV]; exact B1.out.go (bel_al _ _))
  have XV := Lib.hid (show V.heap[g6]? = some (.cells #[.int .u8 p0, .int .u64 p1, .int .u64 p2, .int .u64 p3, .int .u64 p4, .slice pl pn pc] 27) from by rw [hV, hg6]; exact blk_new _ _)
  have HPV := Lib.hid (show ReAt (okN ok w.heap.size) V (.agg #[.int .u8 p0, .int .u64 p1, .int .u64 p2, .int .u64 p3, .int .u64 p4, .slice pl pn pc]) (derE c e).rx from by rw [hV]; exact (HV1.out.below (bel_al _ _)).imp fun _ _ h => okN_up (by simp; omega) h)
  rw [← hV, hgs, ← hg6]
  have K2 := Lib.hid (KM.out V.heap.size (V.alloc (.cells #[.int .u8 p0, .int .u64 p1, .int .u64 p2, .int .u64 p3, .int .u64 p4, .slice pl pn pc] 27)) (row_one (blk_new _ _) trivial ((HPV.out.below (bel_al _ _)).imp fun _ _ _ => trivial)))
  clear hV hgs hg6 HV1 B1 l0 KM
  refine K2.out.mono ?_
  rintro x W ⟨rfl, hb2⟩
  have hbV := Lib.hid ((bel_al V (.cells #[.int .u8 p0, .int .u64 p1, .int .u64 p2, .int .u64 p3, .int .u64 p4, .slice pl pn pc] 27)).trans (hb2.mono (by simp)))
  have BW := Lib.hid (BV.out.go hbV.out)
  have XW := Lib.hid (show W.heap[g6]? = _ from (hbV.out.block g6 (Array.getElem?_eq_some_iff.1 XV.out).1).trans XV.out)
  have HPW := Lib.hid (HPV.out.below hbV.out)
  clear hb2 hbV BV XV HPV K2
  obtain ⟨c0, c1, c2, c3, c4, c5, f0, f1, f2, f3, f4, f5⟩ := cellsR BW.out.2.1
  obtain ⟨b0, b1, b2, b3, b4, b5, -⟩ := cellsR XW.out
  cases q with
  | true =>
    obtain rfl : res = ((derE c e).rx, 0) := HRES.out
    go_wp2
    exact ret_tw (e := derE c e) BW.out.2.1 HPW.out BW.out.2.2 (by omega) Tryz.results26 rfl rfl rfl
  | false =>
    obtain rfl : res = (zeroX, 4) := HRES.out
    go_wp2
    exact ret_tw0 BW.out.2.1 BW.out.2.2 (by omega) Tryz.results26 rfl rfl rfl
theorem ret_twn {fn : Func} {a : Act} {ok : Nat → Prop} {w W : World} {k i g m n : Nat} {r : Rx} {y0 y1 y2 y3 y4 y5 : Value} (hz : W.heap[g]? = some zR) (h : ReAt (New m) W (.agg #[y0, y1, y2, y3, y4, y5]) r) (hgm : g < m) (hb : Below w.heap.size w W) (hg : w.heap.size ≤ g)
    (hres : fn.results = #[.cell k 27, .tmp i]) (hslot : a.tmps.getD k undef = .pointer (some ⟨g, 0, none⟩)) (hn : a.tmps.getD i undef = .int .i64 (n : Int)) (hd : a.defers = []) : bodyPost Tryz.prog fn (TwPost ok (r, n) w) .ret a (putW W g y0 y1 y2 y3 y4 y5) := by
  refine ret_re2 (putR hz _ _ _ _ _ _) hres hslot hd ⟨_, ?_, h.go ⟨by rw [putW_size]; exact Nat.le_refl _, fun b _ hbm => ?_⟩, putB hb hg _ _ _ _ _ _⟩
  · rw [hn]
  · unfold New at hbm
    exact ⟨.inr (by omega), putW_other _ _ _ _ _ _ _ _ (by omega)⟩
set_option maxHeartbeats 4000000 in
set_option maxRecDepth 100000 in
theorem plain_any (c : UInt8) (r : Rx) {ok : Nat → Prop} (v : Value) (w : World) (h : ReAt ok w v r) :
    Calls Tryz.prog 10 #[v, .int .u8 c.toNat] w (TwPost ok (plnX c r) w) := by
  obtain ⟨n, hnc, hn⟩ := u8_num c
  rw [← hnc]
  obtain ⟨x0, x1, x2, x3, x4, xl, xn, xc, rfl⟩ := cells_re h
  have B := Lib.hid (Bn1.new w (.cells #[.int .u8 x0, .int .u64 x1, .int .u64 x2, .int .u64 x3, .int .u64 x4, .slice xl xn xc] 27))
  have KM := Lib.hid fun g W (h : RowAt (fun _ => True) W (some ⟨g, 0, none⟩) [r]) => may_one r g W h
  obtain ⟨V, hV⟩ : ∃ V, V = (w.alloc (.cells #[.int .u8 x0, .int .u64 x1, .int .u64 x2, .int .u64 x3, .int .u64 x4, .slice xl xn xc] 27)).alloc (.cells #[.int .u8 0, .int .u64 0, .int .u64 0, .int .u64 0, .int .u64 0, .slice none 0 0] 27) := ⟨_, rfl⟩
  have hgs : w.heap.size + 1 + 1 = V.heap.size := by rw [hV]; simp
  have HV := Lib.hid hV
  have BV := Lib.hid (show Bn1 w V _ from by rw [hV]; exact B.out)
  have HR := Lib.hid (h.below BV.out.2.2)
  have K1 := Lib.hid (KM.out V.heap.size (V.alloc (.cells #[.int .u8 x0, .int .u64 x1, .int .u64 x2, .int .u64 x3, .int .u64 x4, .slice xl xn xc] 27)) (row_one (blk_new _ _) trivial ((HR.out.below (bel_al _ _)).imp fun _ _ _ => trivial)))
  rw [← hgs] at K1
  have HGS := Lib.hid hgs
  obtain ⟨res, hres⟩ : ∃ z, z = plnX c r := ⟨_, rfl⟩
  rw [← hres]
  have HRES := Lib.hid hres
  have HB0 := Lib.hid (bel_al V (.cells #[.int .u8 x0, .int .u64 x1, .int .u64 x2, .int .u64 x3, .int .u64 x4, .slice xl xn xc] 27))
  have HNC := Lib.hid hnc
  clear hres B KM hV hgs h hnc
  cases hm : mayR r with
  | false =>
    rw [hm] at K1
    obtain rfl : res = (zeroX, 1) := HRES.out.trans (plnX_no hm)
    clear hm HRES
    go_enter Tryz.func10, Tryz.ntmps10
    go_wp2_with fail
    rw [← HV.out]
    refine K1.out.mono ?_
    rintro x W ⟨rfl, hb2⟩
    have BW := Lib.hid (BV.out.go (HB0.out.trans (hb2.mono (by simp))))
    obtain ⟨c0, c1, c2, c3, c4, c5, f0, f1, f2, f3, f4, f5⟩ := cellsR BW.out.2.1
    clear hb2 K1 BV HR HV HGS HB0
    go_wp2
    exact ret_tw0 BW.out.2.1 BW.out.2.2 (by omega) Tryz.results10 rfl rfl rfl
  | true =>
    rw [hm] at K1
    obtain ⟨e0, he0, we, hs⟩ := may_ex HR.out hm
    have hp : res = limX c e0 := HRES.out.trans (by rw [← he0, plnX_of we hs]; rfl)
    have KL := Lib.hid fun W (hb : Below V.heap.size V W) => limited_any c e0 we hs _ W (by rw [he0]; exact HR.out.below hb)
    rw [← hp, ← HNC.out] at KL
    obtain ⟨rr, rn⟩ := res
    clear hm HRES hp he0 we hs
    go_enter Tryz.func10, Tryz.ntmps10
    go_wp2_with fail
    rw [← HV.out]
    refine K1.out.mono ?_
    rintro x W ⟨rfl, hb2⟩
    have hbV := Lib.hid (HB0.out.trans (hb2.mono (by simp)))
    have BW := Lib.hid (BV.out.go hbV.out)
    have K2 := Lib.hid (KL.out W hbV.out)
    obtain ⟨c0, c1, c2, c3, c4, c5, -⟩ := cellsR BW.out.1
    clear hb2 hbV K1 BV HR HV HGS HB0 KL
    go_wp2_with fail
    refine K2.out.mono ?_
    rintro x W2 ⟨v2, rfl, hv2, hb2⟩
    obtain ⟨p0, p1, p2, p3, p4, pl, pn, pc, rfl⟩ := cells_re hv2
    have B2 := Lib.hid (BW.out.go hb2)
    have HP := Lib.hid hv2
    have l0 := (Array.getElem?_eq_some_iff.1 B2.out.2.1).1
    clear hv2 hb2 BW K2 c0 c1 c2 c3 c4 c5
    go_wp2_with fail
    obtain ⟨Y, hY⟩ : ∃ Y, Y = W2.alloc (.cells #[.int .u8 p0, .int .u64 p1, .int .u64 p2, .int .u64 p3, .int .u64 p4, .slice pl pn pc] 27) := ⟨_, rfl⟩
    have hgs : W2.heap.size + 1 = Y.heap.size := by rw [hY]; simp
    have BY := Lib.hid (show Bn1 w Y _ from by rw [hY]; exact B2.out.go (bel_al _ _))
    have K3 := Lib.hid (then_one rr Y.heap.size (Y.alloc (.cells #[.int .u8 p0, .int .u64 p1, .int .u64 p2, .int .u64 p3, .int .u64 p4, .slice pl pn pc] 27)) (row_one (ok := fun _ => True) (blk_new _ _) trivial (((show ReAt _ Y _ rr from by rw [hY]; exact HP.out.below (bel_al _ _)).below (bel_al _ _)).imp fun _ _ _ => trivial)))
    rw [← hY, hgs]
    have HB0 := Lib.hid (bel_al Y (.cells #[.int .u8 p0, .int .u64 p1, .int .u64 p2, .int .u64 p3, .int .u64 p4, .slice pl pn pc] 27))
    clear hY hgs B2 HP l0
    refine K3.out.mono ?_
    rintro x W3 ⟨v3, rfl, hv3, hb3⟩
    obtain ⟨q0, q1, q2, q3, q4, ql, qn, qc, rfl⟩ := cells_re hv3
    have B3 := Lib.hid (BY.out.go (HB0.out.trans (hb3.mono (by simp))))
    have hlt : w.heap.size + 1 < (Y.alloc (.cells #[.int .u8 p0, .int .u64 p1, .int .u64 p2, .int .u64 p3, .int .u64 p4, .slice pl pn pc] 27)).heap.size := by have := (Array.getElem?_eq_some_iff.1 BY.out.2.1).1; simp; omega
    have HQ := Lib.hid hv3
    have HLT := Lib.hid hlt
    clear hv3 hb3 BY HB0 K3 hlt
    obtain ⟨c0, c1, c2, c3, c4, c5, f0, f1, f2, f3, f4, f5⟩ := cellsR B3.out.2.1
    go_wp2
    exact ret_twn B3.out.2.1 HQ.out HLT.out B3.out.2.2 (by omega) Tryz.results10 rfl rfl rfl
end Go.Proofs.YtkieoomjenhacaaGreatDoor
