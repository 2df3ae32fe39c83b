/- Lemmas of mine, merged: NullP. -/
import Derived.Test.YthnecifdgoeenaaDoorNullEAll
import Derived.Test.YthnecifdgoeenaaDoorNullHAll
import Derived.Test.YthnecifdgoeenaaDoorSetHAll
/- null.comesAhead, shortestOfBoth, shorterOfBoth, shortest, Shortest. Made by wip/r7-short.py. -/
namespace Go.Proofs.YthnecifdgoeenaaDoor
open Go.RowKit
theorem tab_go {w w' : World} (h : Tab w) (hb : Below w.heap.size w w') : Tab w' := h.below hb h.1
theorem less_bytes : ∀ (x y : List UInt8), x.length = y.length → Op.bytesLess x y = lessL x y
  | [], [], _ => rfl
  | [], b :: y, h => by simp at h
  | a :: x, [], h => by simp at h
  | a :: x, b :: y, h => by
    have ih := less_bytes x y (by simpa using h)
    simp only [Op.bytesLess, lessL, ih]
    by_cases e : a = b
    · subst e
      simp
    · have hl : decide (a < b) = decide (a.toNat < b.toNat) := rfl
      simp only [e, if_false]
      have : (a == b) = false := by simpa using e
      rw [this, hl]
      simp
set_option maxHeartbeats 1000000 in
theorem comes_any (x y : List UInt8) (w : World) :
    Calls Tryd.prog 51 #[.string ⟨x.toArray⟩, .string ⟨y.toArray⟩] w fun e w' => e = .returned (.bool (aheadL x y)) ∧ Below w.heap.size w w' := by
  have d1 : (⟨x.toArray⟩ : ByteArray).size = x.length := rfl
  have d2 : (⟨y.toArray⟩ : ByteArray).size = y.length := rfl
  rcases Nat.lt_trichotomy x.length y.length with h | h | h
  · have d0 : decide ((x.length : Int) < (y.length : Int)) = true := by simp; omega
    have ha : aheadL x y = true := by unfold aheadL; rw [if_neg (by omega)]; simpa using h
    rw [ha]
    clear ha
    go_enter Tryd.func51, Tryd.ntmps51
    go_wp2
    go_ret
    exact ⟨rfl, Below.refl _ _⟩
  · have d0 : decide ((x.length : Int) < (y.length : Int)) = false := by simp; omega
    have d3 : ((x.length : Int) == (y.length : Int)) = true := by simp; omega
    have ha : aheadL x y = Op.bytesLess x y := by unfold aheadL; rw [if_pos h, less_bytes x y h]
    rw [ha]
    clear ha
    go_enter Tryd.func51, Tryd.ntmps51
    go_wp2
    go_ret
    exact ⟨rfl, Below.refl _ _⟩
  · have d0 : decide ((x.length : Int) < (y.length : Int)) = false := by simp; omega
    have d4 : decide (x.length < y.length) = false := by simp; omega
    have d3 : ((x.length : Int) == (y.length : Int)) = false := by simp; omega
    have ha : aheadL x y = false := by unfold aheadL; rw [if_neg (by omega)]; exact d4
    rw [ha]
    clear ha
    go_enter Tryd.func51, Tryd.ntmps51
    go_wp2
    go_ret
    exact ⟨rfl, Below.refl _ _⟩
/-- What shortest is to answer of an expression. -/
def ShrC (ok : Nat → Prop) (e : Ex) : Prop := ∀ (v : Value) (w : World), Tab w → ReAt ok w v e.rx → Calls Tryd.prog 19 #[v] w fun x w' => x = .returned (shrV e.shr) ∧ Below w.heap.size w w'
theorem six_go {w x : World} {b off : Nat} {x0 x1 x2 x3 x4 x5 : Value} (hb : b < w.heap.size) (h : w.cell? ⟨b, off, none⟩ = some x0 ∧ w.cell? ⟨b, off + 1, none⟩ = some x1 ∧ w.cell? ⟨b, off + 2, none⟩ = some x2 ∧ w.cell? ⟨b, off + 3, none⟩ = some x3 ∧ w.cell? ⟨b, off + 4, none⟩ = some x4 ∧ w.cell? ⟨b, off + 5, none⟩ = some x5) (hx : Below w.heap.size w x) :
    x.cell? ⟨b, off, none⟩ = some x0 ∧ x.cell? ⟨b, off + 1, none⟩ = some x1 ∧ x.cell? ⟨b, off + 2, none⟩ = some x2 ∧ x.cell? ⟨b, off + 3, none⟩ = some x3 ∧ x.cell? ⟨b, off + 4, none⟩ = some x4 ∧ x.cell? ⟨b, off + 5, none⟩ = some x5 := by
  obtain ⟨d0, d1, d2, d3, d4, d5⟩ := h
  have e := fun o => hx.cell (p := ⟨b, o, none⟩) hb
  exact ⟨by rw [e]; exact d0, by rw [e]; exact d1, by rw [e]; exact d2, by rw [e]; exact d3, by rw [e]; exact d4, by rw [e]; exact d5⟩
set_option maxHeartbeats 4000000 in
theorem sofb_any {ok : Nat → Prop} {a b : Ex} (ca : ShrC ok a) (cb : ShrC ok b) (v u : Value) (w : World) (hT : Tab w) (h : ReAt ok w v a.rx) (h' : ReAt ok w u b.rx) :
    Calls Tryd.prog 35 #[v, u] w fun x w' => x = .returned (shrV (seqS a.shr b.shr)) ∧ Below w.heap.size w w' := by
  obtain ⟨x0, x1, x2, x3, x4, xl, xn, xc, rfl⟩ := cells_re h
  obtain ⟨y0, y1, y2, y3, y4, yl, yn, yc, rfl⟩ := cells_re h'
  have KA := Lib.hid fun W (hb : Below w.heap.size w W) => ca _ W (hT.below hb hT.1) (h.below hb)
  have KB := Lib.hid fun W (hb : Below w.heap.size w W) => cb _ W (hT.below hb hT.1) (h'.below hb)
  have B := Lib.hid (Bx2.new w (.cells #[.int .u8 x0, .int .u64 x1, .int .u64 x2, .int .u64 x3, .int .u64 x4, .slice xl xn xc] 27) (.cells #[.int .u8 y0, .int .u64 y1, .int .u64 y2, .int .u64 y3, .int .u64 y4, .slice yl yn yc] 27))
  have hla := shr_len a
  have hlb := shr_len b
  generalize a.shr = x at *
  generalize b.shr = y at *
  have HLA := Lib.hid hla
  have HLB := Lib.hid hlb
  clear hT h h' ca cb hla hlb
  cases x with
  | none =>
    simp only [shrV] at KA
    have hn : seqS none y = none := by cases y <;> rfl
    rw [hn]
    clear hn
    simp only [shrV]
    go_enter Tryd.func35, Tryd.ntmps35
    go_wp2_with fail
    refine (KA.out _ B.out.2.2).mono ?_
    rintro e w1 ⟨rfl, hb1⟩
    have B1 := Lib.hid (B.out.go hb1)
    clear hb1
    obtain ⟨k0, k1, k2, k3, k4, k5, -⟩ := cellsR B1.out.2.1
    go_wp2
    go_ret2
    exact ⟨rfl, B1.out.2.2⟩
  | some x =>
    simp only [shrV] at KA
    have hx := HLA.out x rfl
    cases y with
    | none =>
      simp only [shrV] at KB
      simp only [seqS, shrV]
      go_enter Tryd.func35, Tryd.ntmps35
      go_wp2_with fail
      refine (KA.out _ B.out.2.2).mono ?_
      rintro e w1 ⟨rfl, hb1⟩
      have B1 := Lib.hid (B.out.go hb1)
      clear hb1
      obtain ⟨k0, k1, k2, k3, k4, k5, -⟩ := cellsR B1.out.2.1
      go_wp2_with fail
      refine (KB.out _ B1.out.2.2).mono ?_
      rintro e w2 ⟨rfl, hb2⟩
      have hB2 := (B1.out.go hb2).2.2
      clear hb2 k0 k1 k2 k3 k4 k5
      go_wp2
      go_ret2
      exact ⟨rfl, hB2⟩
    | some y =>
      simp only [shrV] at KB
      have hy := HLB.out y rfl
      have zx : (⟨x.toArray⟩ : ByteArray).size = x.length := by show x.toArray.size = _; simp
      have zy : (⟨y.toArray⟩ : ByteArray).size = y.length := by show y.toArray.size = _; simp
      have hap : (⟨x.toArray⟩ : ByteArray) ++ ⟨y.toArray⟩ = ⟨(x ++ y).toArray⟩ := by apply ByteArray.ext; simp
      have hbig : ¬ 9223372036854775807 < (⟨x.toArray⟩ : ByteArray).size + (⟨y.toArray⟩ : ByteArray).size := by omega
      have wk : IntKind.i64.wrap ((x.length : Int) + (y.length : Int)) = (x.length : Int) + (y.length : Int) := by rw [IntKind.wrap_i64]; omega
      by_cases hl : x.length + y.length ≤ 100
      · have q1 : decide ((100 : Int) < (x.length : Int) + (y.length : Int)) = false := decide_eq_false (by omega)
        have q2 : decide (100 < x.length + y.length) = false := decide_eq_false (by omega)
        simp only [seqS, if_pos hl, shrV]
        clear hl
        go_enter Tryd.func35, Tryd.ntmps35
        go_wp2_with fail
        refine (KA.out _ B.out.2.2).mono ?_
        rintro e w1 ⟨rfl, hb1⟩
        have B1 := Lib.hid (B.out.go hb1)
        clear hb1
        obtain ⟨k0, k1, k2, k3, k4, k5, -⟩ := cellsR B1.out.2.1
        go_wp2_with fail
        refine (KB.out _ B1.out.2.2).mono ?_
        rintro e w2 ⟨rfl, hb2⟩
        have hB2 := (B1.out.go hb2).2.2
        clear hb2 k0 k1 k2 k3 k4 k5
        go_wp2
        go_ret2
        exact ⟨rfl, hB2⟩
      · have q1 : decide ((100 : Int) < (x.length : Int) + (y.length : Int)) = true := decide_eq_true (by omega)
        have q2 : decide (100 < x.length + y.length) = true := decide_eq_true (by omega)
        simp only [seqS, if_neg hl, shrV]
        clear hl
        go_enter Tryd.func35, Tryd.ntmps35
        go_wp2_with fail
        refine (KA.out _ B.out.2.2).mono ?_
        rintro e w1 ⟨rfl, hb1⟩
        have B1 := Lib.hid (B.out.go hb1)
        clear hb1
        obtain ⟨k0, k1, k2, k3, k4, k5, -⟩ := cellsR B1.out.2.1
        go_wp2_with fail
        refine (KB.out _ B1.out.2.2).mono ?_
        rintro e w2 ⟨rfl, hb2⟩
        have hB2 := (B1.out.go hb2).2.2
        clear hb2 k0 k1 k2 k3 k4 k5
        go_wp2
        go_ret2
        exact ⟨rfl, hB2⟩
set_option maxHeartbeats 4000000 in
theorem roo_any {ok : Nat → Prop} {a b : Ex} (ca : ShrC ok a) (cb : ShrC ok b) (v u : Value) (w : World) (hT : Tab w) (h : ReAt ok w v a.rx) (h' : ReAt ok w u b.rx) :
    Calls Tryd.prog 36 #[v, u] w fun x w' => x = .returned (shrV (altS a.shr b.shr)) ∧ Below w.heap.size w w' := by
  obtain ⟨x0, x1, x2, x3, x4, xl, xn, xc, rfl⟩ := cells_re h
  obtain ⟨y0, y1, y2, y3, y4, yl, yn, yc, rfl⟩ := cells_re h'
  have KA := Lib.hid fun W (hb : Below w.heap.size w W) => ca _ W (hT.below hb hT.1) (h.below hb)
  have KB := Lib.hid fun W (hb : Below w.heap.size w W) => cb _ W (hT.below hb hT.1) (h'.below hb)
  have B := Lib.hid (Bx2.new w (.cells #[.int .u8 x0, .int .u64 x1, .int .u64 x2, .int .u64 x3, .int .u64 x4, .slice xl xn xc] 27) (.cells #[.int .u8 y0, .int .u64 y1, .int .u64 y2, .int .u64 y3, .int .u64 y4, .slice yl yn yc] 27))
  have hla := shr_len a
  have hlb := shr_len b
  generalize a.shr = x at *
  generalize b.shr = y at *
  have HLA := Lib.hid hla
  have HLB := Lib.hid hlb
  clear hT h h' ca cb hla hlb
  cases x with
  | none =>
    simp only [shrV] at KA
    cases y with
    | none =>
      simp only [shrV] at KB
      simp only [altS, shrV]
      go_enter Tryd.func36, Tryd.ntmps36
      go_wp2_with fail
      refine (KA.out _ B.out.2.2).mono ?_
      rintro e w1 ⟨rfl, hb1⟩
      have B1 := Lib.hid (B.out.go hb1)
      clear hb1
      obtain ⟨k0, k1, k2, k3, k4, k5, -⟩ := cellsR B1.out.2.1
      go_wp2_with fail
      refine (KB.out _ B1.out.2.2).mono ?_
      rintro e w2 ⟨rfl, hb2⟩
      have hB2 := (B1.out.go hb2).2.2
      clear hb2 k0 k1 k2 k3 k4 k5
      go_wp2
      go_ret2
      exact ⟨rfl, hB2⟩
    | some y =>
      simp only [shrV] at KB
      simp only [altS, shrV]
      go_enter Tryd.func36, Tryd.ntmps36
      go_wp2_with fail
      refine (KA.out _ B.out.2.2).mono ?_
      rintro e w1 ⟨rfl, hb1⟩
      have B1 := Lib.hid (B.out.go hb1)
      clear hb1
      obtain ⟨k0, k1, k2, k3, k4, k5, -⟩ := cellsR B1.out.2.1
      go_wp2_with fail
      refine (KB.out _ B1.out.2.2).mono ?_
      rintro e w2 ⟨rfl, hb2⟩
      have hB2 := (B1.out.go hb2).2.2
      clear hb2 k0 k1 k2 k3 k4 k5
      go_wp2
      go_ret2
      exact ⟨rfl, hB2⟩
  | some x =>
    simp only [shrV] at KA
    have hx := HLA.out x rfl
    cases y with
    | none =>
      simp only [shrV] at KB
      simp only [altS, shrV]
      go_enter Tryd.func36, Tryd.ntmps36
      go_wp2_with fail
      refine (KA.out _ B.out.2.2).mono ?_
      rintro e w1 ⟨rfl, hb1⟩
      have B1 := Lib.hid (B.out.go hb1)
      clear hb1
      obtain ⟨k0, k1, k2, k3, k4, k5, -⟩ := cellsR B1.out.2.1
      go_wp2_with fail
      refine (KB.out _ B1.out.2.2).mono ?_
      rintro e w2 ⟨rfl, hb2⟩
      have hB2 := (B1.out.go hb2).2.2
      clear hb2 k0 k1 k2 k3 k4 k5
      go_wp2
      go_ret2
      exact ⟨rfl, hB2⟩
    | some y =>
      simp only [shrV] at KB
      have hy := HLB.out y rfl
      have KH := Lib.hid fun W => comes_any y x W
      cases hq : aheadL y x with
      | true =>
        rw [hq] at KH
        simp only [altS, hq, if_true, shrV]
        clear hq
        go_enter Tryd.func36, Tryd.ntmps36
        go_wp2_with fail
        refine (KA.out _ B.out.2.2).mono ?_
        rintro e w1 ⟨rfl, hb1⟩
        have B1 := Lib.hid (B.out.go hb1)
        clear hb1
        obtain ⟨k0, k1, k2, k3, k4, k5, -⟩ := cellsR B1.out.2.1
        go_wp2_with fail
        refine (KB.out _ B1.out.2.2).mono ?_
        rintro e w2 ⟨rfl, hb2⟩
        have hB2 := (B1.out.go hb2).2.2
        clear hb2 k0 k1 k2 k3 k4 k5
        go_wp2_with fail
        refine (KH.out _).mono ?_
        rintro e w3 ⟨rfl, hb3⟩
        go_wp2
        go_ret2
        exact ⟨rfl, hB2.trans (hb3.mono hB2.size)⟩
      | false =>
        rw [hq] at KH
        simp only [altS, hq, Bool.false_eq_true, if_false, shrV]
        clear hq
        go_enter Tryd.func36, Tryd.ntmps36
        go_wp2_with fail
        refine (KA.out _ B.out.2.2).mono ?_
        rintro e w1 ⟨rfl, hb1⟩
        have B1 := Lib.hid (B.out.go hb1)
        clear hb1
        obtain ⟨k0, k1, k2, k3, k4, k5, -⟩ := cellsR B1.out.2.1
        go_wp2_with fail
        refine (KB.out _ B1.out.2.2).mono ?_
        rintro e w2 ⟨rfl, hb2⟩
        have hB2 := (B1.out.go hb2).2.2
        clear hb2 k0 k1 k2 k3 k4 k5
        go_wp2_with fail
        refine (KH.out _).mono ?_
        rintro e w3 ⟨rfl, hb3⟩
        go_wp2
        go_ret2
        exact ⟨rfl, hB2.trans (hb3.mono hB2.size)⟩
set_option maxHeartbeats 8000000 in
set_option maxRecDepth 100000 in
theorem shortest_any {ok : Nat → Prop} (N : Nat) : ∀ (e : Ex), e.size ≤ N → e.Wf → ShrC ok e := by
  induction N with
  | zero => intro e hN; have := e.size_pos; omega
  | succ N ih =>
    intro e hN we v w hT hR
    cases e with
    | empty =>
      obtain ⟨_, _, al, cap, rfl, _, _, hrow⟩ := hR
      simp only [Ws.nil]
      rw [show (((1 : Nat) : Int)) = 1 from rfl, show (((0 : Nat) : Int)) = 0 from rfl]
      clear hrow
      go_enter Tryd.func19, Tryd.ntmps19
      go_wp2
      go_ret2
      exact ⟨rfl, (Below.refl _ w).alloc (Nat.le_refl _) _⟩
    | eps =>
      obtain ⟨_, _, al, cap, rfl, _, _, hrow⟩ := hR
      simp only [Ws.nil]
      rw [show (((2 : Nat) : Int)) = 2 from rfl, show (((0 : Nat) : Int)) = 0 from rfl]
      clear hrow
      go_enter Tryd.func19, Tryd.ntmps19
      go_wp2
      go_ret2
      exact ⟨rfl, (Below.refl _ w).alloc (Nat.le_refl _) _⟩
    | star a =>
      obtain ⟨_, _, al, cap, rfl, _, _, hrow⟩ := hR
      simp only [Ws.nil]
      rw [show (((6 : Nat) : Int)) = 6 from rfl, show (((0 : Nat) : Int)) = 0 from rfl]
      clear hrow
      go_enter Tryd.func19, Tryd.ntmps19
      go_wp2
      go_ret2
      exact ⟨rfl, (Below.refl _ w).alloc (Nat.le_refl _) _⟩
    | cls s =>
      obtain ⟨_, _, al, cap, rfl, _, _, hrow⟩ := hR
      have hsh : (Ex.cls s).shr = some ((u8s (bytesN s)).take 1) := by show some _ = _; unfold u8s; rw [List.map_take]
      rw [hsh]
      have hne : u8s (bytesN s) ≠ [] := by
        intro e
        refine bytesN_ne we.1 we.2 ?_
        unfold u8s at e; simpa using e
      have KB := Lib.hid fun W (hb : Below w.heap.size w W) => bytes_any s W we.1 (tab_go hT hb)
      generalize u8s (bytesN s) = l at *
      obtain ⟨c, l, rfl⟩ : ∃ c t, l = c :: t := by cases l with
        | nil => exact absurd rfl hne
        | cons c t => exact ⟨c, t, rfl⟩
      obtain ⟨sa, sb, sc, sd⟩ := s
      unfold Ws.v at KB
      simp only at KB
      rw [show (((3 : Nat) : Int)) = 3 from rfl]
      simp only [shrV, List.take_succ_cons, List.take_zero]
      clear hrow hsh hne we hT
      have hb0 := (Below.refl _ w).alloc (Nat.le_refl _) (.cells #[.int .u8 3, .int .u64 sa, .int .u64 sb, .int .u64 sc, .int .u64 sd, .slice al 0 cap] 27)
      have HB0 := Lib.hid hb0
      clear hb0
      go_enter Tryd.func19, Tryd.ntmps19
      go_wp2_with fail
      refine (KB.out _ HB0.out).mono ?_
      rintro e w1 ⟨a, cp, rfl, hcp, hb1, hB⟩
      have hbw := HB0.out.trans (hb1.mono HB0.out.size)
      have h1 : BytesAt w1 a [c] := by
        obtain ⟨hm, h | ⟨b, off, rfl, hlt, hcc⟩⟩ := hB
        · simp at h
        · refine ⟨by simp only [List.length_cons] at hm ⊢; simp at hm ⊢; omega, .inr ⟨b, off, rfl, hlt, fun i hi => ?_⟩⟩
          match i, hi with
          | 0, _ =>
            have := hcc 0 (by simp)
            simpa using this
      have hcv := conv_bytes h1 cp
      simp only [List.length_cons, List.length_nil, Nat.zero_add] at hcv
      have hc1 : 1 ≤ cp := by simp only [List.length_cons] at hcp; omega
      have hc2 : (1 : Int) ≤ (cp : Int) := by omega
      simp only [List.length_cons]
      clear hb1 hB hcp
      go_wp2
      go_ret2
      exact ⟨rfl, hbw⟩
    | seq a b =>
      have hRR := hR
      obtain ⟨_, _, al, cap, rfl, hcap, _, hrow⟩ := hR
      obtain ⟨bk, off, rfl, hlt, hn0⟩ := hrow.kid (i := 0) (by simp)
      simp only [List.getElem_cons_zero, Nat.zero_mul, Nat.add_zero] at hn0
      obtain ⟨bk', off', e', hlt', hn1⟩ := hrow.kid (i := 1) (by simp)
      simp at e'
      obtain ⟨rfl, rfl⟩ := e'
      simp only [List.getElem_cons_zero, List.getElem_cons_succ, Nat.one_mul] at hn1
      have hcap2 : 2 ≤ cap := by simpa using hcap
      obtain ⟨ka, ⟨sa, sb, sc, sd⟩, ksa, hsa⟩ := rx_form a
      obtain ⟨kb, ⟨ta, tb, tc, td⟩, ksb, hsb⟩ := rx_form b
      have ca : ShrC ok a := ih a (by simp only [Ex.size] at hN; omega) we.1
      have cb : ShrC ok b := ih b (by simp only [Ex.size] at hN; omega) we.2
      rw [hsa] at hn0
      rw [hsb] at hn1
      obtain ⟨al0, cap0, ⟨i0, i1, i2, i3, i4, i5⟩, hra⟩ := hn0.read
      obtain ⟨al1, cap1, ⟨j0, j1, j2, j3, j4, j5⟩, hrb⟩ := hn1.read
      simp only at i0 i1 i2 i3 i4 i5 j0 j1 j2 j3 j4 j5
      have hv : (Ex.seq a b).shr = seqS a.shr b.shr := by rw [Ex.shr]; unfold seqS; cases a.shr <;> cases b.shr <;> rfl
      rw [hv]
      rw [← hsa] at hra
      rw [← hsb] at hrb
      have KT0 := Lib.hid fun W (hb : Below w.heap.size w W) => sofb_any ca cb _ _ W (tab_go hT hb) (hra.below hb) (hrb.below hb)
      obtain ⟨st, q, hsv⟩ : ∃ st q, shrV (seqS a.shr b.shr) = .tuple #[.string st, .bool q] := by cases seqS a.shr b.shr <;> exact ⟨_, _, rfl⟩
      rw [hsv] at KT0 ⊢
      clear hv hsv hrow hn0 hn1 hcap hRR hsa hsb hra hrb ca cb hT
      simp only [Ws.nil]
      rw [show (((4 : Nat) : Int)) = 4 from rfl, show (((0 : Nat) : Int)) = 0 from rfl]
      have BX := Lib.hid (Bx.new w 4 0 0 0 0 (some ⟨bk, off, none⟩) 2 cap)
      have I6 := Lib.hid (show w.cell? ⟨bk, off, none⟩ = some (.int .u8 ka) ∧ w.cell? ⟨bk, off + 1, none⟩ = some (.int .u64 sa) ∧ w.cell? ⟨bk, off + 2, none⟩ = some (.int .u64 sb) ∧ w.cell? ⟨bk, off + 3, none⟩ = some (.int .u64 sc) ∧ w.cell? ⟨bk, off + 4, none⟩ = some (.int .u64 sd) ∧ w.cell? ⟨bk, off + 5, none⟩ = some (.slice al0 ksa.length cap0) from ⟨i0, i1, i2, i3, i4, i5⟩)
      have J6 := Lib.hid (show w.cell? ⟨bk, off + 6, none⟩ = some (.int .u8 kb) ∧ w.cell? ⟨bk, off + 6 + 1, none⟩ = some (.int .u64 ta) ∧ w.cell? ⟨bk, off + 6 + 2, none⟩ = some (.int .u64 tb) ∧ w.cell? ⟨bk, off + 6 + 3, none⟩ = some (.int .u64 tc) ∧ w.cell? ⟨bk, off + 6 + 4, none⟩ = some (.int .u64 td) ∧ w.cell? ⟨bk, off + 6 + 5, none⟩ = some (.slice al1 ksb.length cap1) from ⟨j0, j1, j2, j3, j4, j5⟩)
      clear i0 i1 i2 i3 i4 i5 j0 j1 j2 j3 j4 j5
      go_enter Tryd.func19, Tryd.ntmps19
      go_wp2_with fail
      obtain ⟨W, hW⟩ : ∃ x, x = w.alloc (.cells #[.int .u8 4, .int .u64 0, .int .u64 0, .int .u64 0, .int .u64 0, .slice (some ⟨bk, off, none⟩) 2 cap] 27) := ⟨_, rfl⟩
      rw [← hW] at BX ⊢
      clear hW
      have CX := Lib.hid fun x (hx : Below W.heap.size W x) => (cellsR (BX.out.go hx).1).2.2.2.2.2.1
      have CA := Lib.hid fun x (hx : Below W.heap.size W x) => six_go hlt I6.out (BX.out.go hx).2
      have CB := Lib.hid fun x (hx : Below W.heap.size W x) => six_go hlt J6.out (BX.out.go hx).2
      have KT := Lib.hid fun x (hx : Below W.heap.size W x) => KT0.out x (BX.out.go hx).2
      refine wp_region_order (fun i => ([SP.eq (.pointer (some ⟨w.heap.size, 5, none⟩)), SP.eq (.slice (some ⟨bk, off, none⟩) 2 cap), SP.eq (.pointer (some ⟨bk, off, none⟩)), SP.eq (.agg #[.int .u8 ka, .int .u64 sa, .int .u64 sb, .int .u64 sc, .int .u64 sd, .slice al0 ksa.length cap0]), SP.eq (.pointer (some ⟨w.heap.size, 5, none⟩)), SP.eq (.slice (some ⟨bk, off, none⟩) 2 cap), SP.eq (.pointer (some ⟨bk, off + 6, none⟩)), SP.eq (.agg #[.int .u8 kb, .int .u64 ta, .int .u64 tb, .int .u64 tc, .int .u64 td, .slice al1 ksb.length cap1]), SP.eq (.tuple #[.string st, .bool q]), SP.eq (.string st), SP.eq (.bool q), SP.eq (.string st), SP.eq (.bool q)] : List SP).getD i SP.free) (by kernel_rfl) (by kernel_rfl) ⟨?_, ?_, ?_, ?_, ?_, ?_, ?_, ?_, ?_, ?_, ?_, ?_, ?_, trivial⟩ ?_
      · intro a x K out get hb hK
        rw [if_pos (wanted_none rfl)]
        have o1 : a.tmps[1]? = some (.pointer (some ⟨w.heap.size, 0, none⟩)) := out 1 (by kernel_rfl)
        clear out get
        go_simp
        exact hK _ _ rfl (Below.refl _ _)
      · intro a x K out get hb hK
        rw [if_pos (wanted_none rfl)]
        obtain ⟨y18, hy18, rfl⟩ := get 0 _ _ rfl rfl (by kernel_rfl)
        clear out get
        have hk5 := CX.out x hb
        go_simp
        exact hK _ _ rfl (Below.refl _ _)
      · intro a x K out get hb hK
        rw [if_pos (wanted_none rfl)]
        obtain ⟨y19, hy19, rfl⟩ := get 1 _ _ rfl rfl (by kernel_rfl)
        clear out get
        go_simp
        exact hK _ _ rfl (Below.refl _ _)
      · intro a x K out get hb hK
        rw [if_pos (wanted_none rfl)]
        obtain ⟨y20, hy20, rfl⟩ := get 2 _ _ rfl rfl (by kernel_rfl)
        clear out get
        obtain ⟨c0, c1, c2, c3, c4, c5⟩ := CA.out x hb
        go_simp
        exact hK _ _ rfl (Below.refl _ _)
      · intro a x K out get hb hK
        rw [if_pos (wanted_none rfl)]
        have o1 : a.tmps[1]? = some (.pointer (some ⟨w.heap.size, 0, none⟩)) := out 1 (by kernel_rfl)
        clear out get
        go_simp
        exact hK _ _ rfl (Below.refl _ _)
      · intro a x K out get hb hK
        rw [if_pos (wanted_none rfl)]
        obtain ⟨y22, hy22, rfl⟩ := get 4 _ _ rfl rfl (by kernel_rfl)
        clear out get
        have hk5 := CX.out x hb
        go_simp
        exact hK _ _ rfl (Below.refl _ _)
      · intro a x K out get hb hK
        rw [if_pos (wanted_none rfl)]
        obtain ⟨y23, hy23, rfl⟩ := get 5 _ _ rfl rfl (by kernel_rfl)
        clear out get
        go_simp
        exact hK _ _ rfl (Below.refl _ _)
      · intro a x K out get hb hK
        rw [if_pos (wanted_none rfl)]
        obtain ⟨y24, hy24, rfl⟩ := get 6 _ _ rfl rfl (by kernel_rfl)
        clear out get
        obtain ⟨c0, c1, c2, c3, c4, c5⟩ := CB.out x hb
        go_simp
        exact hK _ _ rfl (Below.refl _ _)
      · intro a x K out get hb hK
        rw [if_pos (wanted_none rfl)]
        obtain ⟨y21, hy21, rfl⟩ := get 3 _ _ rfl rfl (by kernel_rfl)
        obtain ⟨y25, hy25, rfl⟩ := get 7 _ _ rfl rfl (by kernel_rfl)
        clear out get
        go_simp
        refine (KT.out x hb).mono ?_
        rintro e w2 ⟨rfl, hb2⟩
        exact hK _ _ rfl hb2
      · intro a x K out get hb hK
        rw [if_pos (wanted_none rfl)]
        obtain ⟨y26, hy26, rfl⟩ := get 8 _ _ rfl rfl (by kernel_rfl)
        clear out get
        go_simp
        exact hK _ _ rfl (Below.refl _ _)
      · intro a x K out get hb hK
        rw [if_pos (wanted_none rfl)]
        obtain ⟨y26, hy26, rfl⟩ := get 8 _ _ rfl rfl (by kernel_rfl)
        clear out get
        go_simp
        exact hK _ _ rfl (Below.refl _ _)
      · intro a x K out get hb hK
        rw [if_pos (wanted_none rfl)]
        obtain ⟨y27, hy27, rfl⟩ := get 9 _ _ rfl rfl (by kernel_rfl)
        clear out get
        go_simp
        exact hK _ _ rfl (Below.refl _ _)
      · intro a x K out get hb hK
        rw [if_pos (wanted_none rfl)]
        obtain ⟨y28, hy28, rfl⟩ := get 10 _ _ rfl rfl (by kernel_rfl)
        clear out get
        go_simp
        exact hK _ _ rfl (Below.refl _ _)
      refine ao_fin (isD := fun s => (decide (18 ≤ s) && decide (s ≤ 28)) || (decide (2 ≤ s) && decide (s ≤ 3))) (by kernel_rfl) ?_
      intro f x hv hb
      have f2 : f 2 = .string st := hv 11 _ _ rfl rfl
      have f3 : f 3 = .bool q := hv 12 _ _ rfl rfl
      clear hv
      simp only [frm]
      simp
      rw [f2, f3]
      generalize f 18 = u18 at *
      generalize f 19 = u19 at *
      generalize f 20 = u20 at *
      generalize f 21 = u21 at *
      generalize f 22 = u22 at *
      generalize f 23 = u23 at *
      generalize f 24 = u24 at *
      generalize f 25 = u25 at *
      generalize f 26 = u26 at *
      generalize f 27 = u27 at *
      generalize f 28 = u28 at *
      clear f2 f3 f
      have hBB := (BX.out.go hb).2
      go_wp2
      go_ret2
      exact ⟨rfl, hBB⟩
    | alt a b =>
      have hRR := hR
      obtain ⟨_, _, al, cap, rfl, hcap, _, hrow⟩ := hR
      obtain ⟨bk, off, rfl, hlt, hn0⟩ := hrow.kid (i := 0) (by simp)
      simp only [List.getElem_cons_zero, Nat.zero_mul, Nat.add_zero] at hn0
      obtain ⟨bk', off', e', hlt', hn1⟩ := hrow.kid (i := 1) (by simp)
      simp at e'
      obtain ⟨rfl, rfl⟩ := e'
      simp only [List.getElem_cons_zero, List.getElem_cons_succ, Nat.one_mul] at hn1
      have hcap2 : 2 ≤ cap := by simpa using hcap
      obtain ⟨ka, ⟨sa, sb, sc, sd⟩, ksa, hsa⟩ := rx_form a
      obtain ⟨kb, ⟨ta, tb, tc, td⟩, ksb, hsb⟩ := rx_form b
      have ca : ShrC ok a := ih a (by simp only [Ex.size] at hN; omega) we.1
      have cb : ShrC ok b := ih b (by simp only [Ex.size] at hN; omega) we.2
      rw [hsa] at hn0
      rw [hsb] at hn1
      obtain ⟨al0, cap0, ⟨i0, i1, i2, i3, i4, i5⟩, hra⟩ := hn0.read
      obtain ⟨al1, cap1, ⟨j0, j1, j2, j3, j4, j5⟩, hrb⟩ := hn1.read
      simp only at i0 i1 i2 i3 i4 i5 j0 j1 j2 j3 j4 j5
      have hv : (Ex.alt a b).shr = altS a.shr b.shr := by rw [Ex.shr]; unfold altS; cases a.shr <;> cases b.shr <;> rfl
      rw [hv]
      rw [← hsa] at hra
      rw [← hsb] at hrb
      have KT0 := Lib.hid fun W (hb : Below w.heap.size w W) => roo_any ca cb _ _ W (tab_go hT hb) (hra.below hb) (hrb.below hb)
      obtain ⟨st, q, hsv⟩ : ∃ st q, shrV (altS a.shr b.shr) = .tuple #[.string st, .bool q] := by cases altS a.shr b.shr <;> exact ⟨_, _, rfl⟩
      rw [hsv] at KT0 ⊢
      clear hv hsv hrow hn0 hn1 hcap hRR hsa hsb hra hrb ca cb hT
      simp only [Ws.nil]
      rw [show (((5 : Nat) : Int)) = 5 from rfl, show (((0 : Nat) : Int)) = 0 from rfl]
      have BX := Lib.hid (Bx.new w 5 0 0 0 0 (some ⟨bk, off, none⟩) 2 cap)
      have I6 := Lib.hid (show w.cell? ⟨bk, off, none⟩ = some (.int .u8 ka) ∧ w.cell? ⟨bk, off + 1, none⟩ = some (.int .u64 sa) ∧ w.cell? ⟨bk, off + 2, none⟩ = some (.int .u64 sb) ∧ w.cell? ⟨bk, off + 3, none⟩ = some (.int .u64 sc) ∧ w.cell? ⟨bk, off + 4, none⟩ = some (.int .u64 sd) ∧ w.cell? ⟨bk, off + 5, none⟩ = some (.slice al0 ksa.length cap0) from ⟨i0, i1, i2, i3, i4, i5⟩)
      have J6 := Lib.hid (show w.cell? ⟨bk, off + 6, none⟩ = some (.int .u8 kb) ∧ w.cell? ⟨bk, off + 6 + 1, none⟩ = some (.int .u64 ta) ∧ w.cell? ⟨bk, off + 6 + 2, none⟩ = some (.int .u64 tb) ∧ w.cell? ⟨bk, off + 6 + 3, none⟩ = some (.int .u64 tc) ∧ w.cell? ⟨bk, off + 6 + 4, none⟩ = some (.int .u64 td) ∧ w.cell? ⟨bk, off + 6 + 5, none⟩ = some (.slice al1 ksb.length cap1) from ⟨j0, j1, j2, j3, j4, j5⟩)
      clear i0 i1 i2 i3 i4 i5 j0 j1 j2 j3 j4 j5
      go_enter Tryd.func19, Tryd.ntmps19
      go_wp2_with fail
      obtain ⟨W, hW⟩ : ∃ x, x = w.alloc (.cells #[.int .u8 5, .int .u64 0, .int .u64 0, .int .u64 0, .int .u64 0, .slice (some ⟨bk, off, none⟩) 2 cap] 27) := ⟨_, rfl⟩
      rw [← hW] at BX ⊢
      clear hW
      have CX := Lib.hid fun x (hx : Below W.heap.size W x) => (cellsR (BX.out.go hx).1).2.2.2.2.2.1
      have CA := Lib.hid fun x (hx : Below W.heap.size W x) => six_go hlt I6.out (BX.out.go hx).2
      have CB := Lib.hid fun x (hx : Below W.heap.size W x) => six_go hlt J6.out (BX.out.go hx).2
      have KT := Lib.hid fun x (hx : Below W.heap.size W x) => KT0.out x (BX.out.go hx).2
      refine wp_region_order (fun i => ([SP.eq (.pointer (some ⟨w.heap.size, 5, none⟩)), SP.eq (.slice (some ⟨bk, off, none⟩) 2 cap), SP.eq (.pointer (some ⟨bk, off, none⟩)), SP.eq (.agg #[.int .u8 ka, .int .u64 sa, .int .u64 sb, .int .u64 sc, .int .u64 sd, .slice al0 ksa.length cap0]), SP.eq (.pointer (some ⟨w.heap.size, 5, none⟩)), SP.eq (.slice (some ⟨bk, off, none⟩) 2 cap), SP.eq (.pointer (some ⟨bk, off + 6, none⟩)), SP.eq (.agg #[.int .u8 kb, .int .u64 ta, .int .u64 tb, .int .u64 tc, .int .u64 td, .slice al1 ksb.length cap1]), SP.eq (.tuple #[.string st, .bool q]), SP.eq (.string st), SP.eq (.bool q), SP.eq (.string st), SP.eq (.bool q)] : List SP).getD i SP.free) (by kernel_rfl) (by kernel_rfl) ⟨?_, ?_, ?_, ?_, ?_, ?_, ?_, ?_, ?_, ?_, ?_, ?_, ?_, trivial⟩ ?_
      · intro a x K out get hb hK
        rw [if_pos (wanted_none rfl)]
        have o1 : a.tmps[1]? = some (.pointer (some ⟨w.heap.size, 0, none⟩)) := out 1 (by kernel_rfl)
        clear out get
        go_simp
        exact hK _ _ rfl (Below.refl _ _)
      · intro a x K out get hb hK
        rw [if_pos (wanted_none rfl)]
        obtain ⟨y31, hy31, rfl⟩ := get 0 _ _ rfl rfl (by kernel_rfl)
        clear out get
        have hk5 := CX.out x hb
        go_simp
        exact hK _ _ rfl (Below.refl _ _)
      · intro a x K out get hb hK
        rw [if_pos (wanted_none rfl)]
        obtain ⟨y32, hy32, rfl⟩ := get 1 _ _ rfl rfl (by kernel_rfl)
        clear out get
        go_simp
        exact hK _ _ rfl (Below.refl _ _)
      · intro a x K out get hb hK
        rw [if_pos (wanted_none rfl)]
        obtain ⟨y33, hy33, rfl⟩ := get 2 _ _ rfl rfl (by kernel_rfl)
        clear out get
        obtain ⟨c0, c1, c2, c3, c4, c5⟩ := CA.out x hb
        go_simp
        exact hK _ _ rfl (Below.refl _ _)
      · intro a x K out get hb hK
        rw [if_pos (wanted_none rfl)]
        have o1 : a.tmps[1]? = some (.pointer (some ⟨w.heap.size, 0, none⟩)) := out 1 (by kernel_rfl)
        clear out get
        go_simp
        exact hK _ _ rfl (Below.refl _ _)
      · intro a x K out get hb hK
        rw [if_pos (wanted_none rfl)]
        obtain ⟨y35, hy35, rfl⟩ := get 4 _ _ rfl rfl (by kernel_rfl)
        clear out get
        have hk5 := CX.out x hb
        go_simp
        exact hK _ _ rfl (Below.refl _ _)
      · intro a x K out get hb hK
        rw [if_pos (wanted_none rfl)]
        obtain ⟨y36, hy36, rfl⟩ := get 5 _ _ rfl rfl (by kernel_rfl)
        clear out get
        go_simp
        exact hK _ _ rfl (Below.refl _ _)
      · intro a x K out get hb hK
        rw [if_pos (wanted_none rfl)]
        obtain ⟨y37, hy37, rfl⟩ := get 6 _ _ rfl rfl (by kernel_rfl)
        clear out get
        obtain ⟨c0, c1, c2, c3, c4, c5⟩ := CB.out x hb
        go_simp
        exact hK _ _ rfl (Below.refl _ _)
      · intro a x K out get hb hK
        rw [if_pos (wanted_none rfl)]
        obtain ⟨y34, hy34, rfl⟩ := get 3 _ _ rfl rfl (by kernel_rfl)
        obtain ⟨y38, hy38, rfl⟩ := get 7 _ _ rfl rfl (by kernel_rfl)
        clear out get
        go_simp
        refine (KT.out x hb).mono ?_
        rintro e w2 ⟨rfl, hb2⟩
        exact hK _ _ rfl hb2
      · intro a x K out get hb hK
        rw [if_pos (wanted_none rfl)]
        obtain ⟨y39, hy39, rfl⟩ := get 8 _ _ rfl rfl (by kernel_rfl)
        clear out get
        go_simp
        exact hK _ _ rfl (Below.refl _ _)
      · intro a x K out get hb hK
        rw [if_pos (wanted_none rfl)]
        obtain ⟨y39, hy39, rfl⟩ := get 8 _ _ rfl rfl (by kernel_rfl)
        clear out get
        go_simp
        exact hK _ _ rfl (Below.refl _ _)
      · intro a x K out get hb hK
        rw [if_pos (wanted_none rfl)]
        obtain ⟨y40, hy40, rfl⟩ := get 9 _ _ rfl rfl (by kernel_rfl)
        clear out get
        go_simp
        exact hK _ _ rfl (Below.refl _ _)
      · intro a x K out get hb hK
        rw [if_pos (wanted_none rfl)]
        obtain ⟨y41, hy41, rfl⟩ := get 10 _ _ rfl rfl (by kernel_rfl)
        clear out get
        go_simp
        exact hK _ _ rfl (Below.refl _ _)
      refine ao_fin (isD := fun s => (decide (31 ≤ s) && decide (s ≤ 41)) || (decide (2 ≤ s) && decide (s ≤ 3))) (by kernel_rfl) ?_
      intro f x hv hb
      have f2 : f 2 = .string st := hv 11 _ _ rfl rfl
      have f3 : f 3 = .bool q := hv 12 _ _ rfl rfl
      clear hv
      simp only [frm]
      simp
      rw [f2, f3]
      generalize f 31 = u31 at *
      generalize f 32 = u32 at *
      generalize f 33 = u33 at *
      generalize f 34 = u34 at *
      generalize f 35 = u35 at *
      generalize f 36 = u36 at *
      generalize f 37 = u37 at *
      generalize f 38 = u38 at *
      generalize f 39 = u39 at *
      generalize f 40 = u40 at *
      generalize f 41 = u41 at *
      clear f2 f3 f
      have hBB := (BX.out.go hb).2
      go_wp2
      go_ret2
      exact ⟨rfl, hBB⟩
set_option maxHeartbeats 2000000 in
set_option maxRecDepth 100000 in
theorem shortestX_any {ok : Nat → Prop} (r : Rx) (v : Value) (w : World) (hT : Tab w) (h : ReAt ok w v r) :
    Calls Tryd.prog 7 #[v] w fun e w' => e = .returned (shrV (shrX r)) ∧ Below w.heap.size w w' := by
  obtain ⟨x0, x1, x2, x3, x4, xl, xn, xc, rfl⟩ := cells_re h
  have B := Lib.hid (Bx.new w x0 x1 x2 x3 x4 xl xn xc)
  have hr := row_new (h.below B.out.2)
  rw [show (w.alloc (.cells #[.int .u8 x0, .int .u64 x1, .int .u64 x2, .int .u64 x3, .int .u64 x4, .slice xl xn xc] 27)).heap.size = w.heap.size + 1 from by simp] at hr
  have HR := Lib.hid hr
  clear hr
  have KM := Lib.hid fun (al : Option Addr) (W : World) (h : RowAt (fun _ => True) W al [r]) => mayX [r] al 1 W (by simp) h
  rw [show [r].length = 1 from rfl] at KM
  have em : [r].all mayR = mayR r := by simp
  rw [em] at KM
  have B1 := Lib.hid (B.out.go (bel_al _ (.cells #[.int .u8 x0, .int .u64 x1, .int .u64 x2, .int .u64 x3, .int .u64 x4, .slice xl xn xc] 27)))
  clear em B
  cases hm : mayR r with
  | false =>
    have hq : shrX r = none := by unfold shrX; rw [exX_no hm]; rfl
    rw [hq]
    rw [hm] at KM
    simp only [shrV]
    clear hm hq h hT
    go_enter Tryd.func7, Tryd.ntmps7
    go_wp2_with fail
    refine (KM.out _ _ HR.out).mono ?_
    rintro e w1 ⟨rfl, hb1⟩
    have hB := (B1.out.go hb1).2
    go_wp2
    go_ret2
    exact ⟨rfl, hB⟩
  | true =>
    obtain ⟨e0, he0, we, hs⟩ := may_ex h hm
    have hq : shrX r = e0.shr := by unfold shrX; rw [← he0, exX_of we hs]; rfl
    rw [hq]
    rw [hm] at KM
    have KN := Lib.hid fun W (hb : Below w.heap.size w W) => shortest_any (ok := ok) e0.size e0 (Nat.le_refl _) we (.agg #[.int .u8 x0, .int .u64 x1, .int .u64 x2, .int .u64 x3, .int .u64 x4, .slice xl xn xc]) W (tab_go hT hb) (by rw [he0]; exact h.below hb)
    obtain ⟨st, q, hsv⟩ : ∃ st q, shrV e0.shr = .tuple #[.string st, .bool q] := by cases e0.shr <;> exact ⟨_, _, rfl⟩
    rw [hsv] at KN ⊢
    clear hm hq h he0 hsv hT
    go_enter Tryd.func7, Tryd.ntmps7
    go_wp2_with fail
    refine (KM.out _ _ HR.out).mono ?_
    rintro e w1 ⟨rfl, hb1⟩
    have B2 := Lib.hid (B1.out.go hb1)
    clear hb1
    obtain ⟨c0, c1, c2, c3, c4, c5, -⟩ := cellsR B2.out.1
    go_wp2_with fail
    refine (KN.out _ B2.out.2).mono ?_
    rintro e w2 ⟨rfl, hb2⟩
    have hB := (B2.out.go hb2).2
    go_wp2
    go_ret2
    exact ⟨rfl, hB⟩
end Go.Proofs.YthnecifdgoeenaaDoor
