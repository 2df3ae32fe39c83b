/- Lemmas of mine, merged: NullE. -/
import Derived.Test.YthnecifdgoeenaaDoorRexIAll
import Derived.Test.YthnecifdgoeenaaDoorSetHAll
/- quillref07's short. -/
namespace Go.Proofs.YthnecifdgoeenaaDoor
open Go.RowKit
def seqS (x y : Option (List UInt8)) : Option (List UInt8) := match x, y with
  | some x, some y => if x.length + y.length ≤ 100 then some (x ++ y) else none
  | _, _ => none
def altS (x y : Option (List UInt8)) : Option (List UInt8) := match x, y with
  | some x, some y => if aheadL y x = true then some y else some x
  | some x, none => some x
  | none, y => y
def shrV : Option (List UInt8) → Value
  | some x => .tuple #[.string ⟨x.toArray⟩, .bool true]
  | none => .tuple #[.string ⟨#[]⟩, .bool false]
theorem shr_len : ∀ (e : Ex) (x : List UInt8), e.shr = some x → x.length ≤ 100
  | .empty, x, h => by cases h
  | .eps, x, h => by cases h; simp
  | .cls s, x, h => by cases h; simp; omega
  | .star a, x, h => by cases h; simp
  | .seq a b, z, h => by
    simp only [Ex.shr] at h
    split at h
    · split at h
      · cases h; simp; omega
      · cases h
    · cases h
  | .alt a b, z, h => by
    have ia := shr_len a
    have ib := shr_len b
    simp only [Ex.shr] at h
    split at h
    · rename_i h1 h2
      split at h
      · cases h; exact ib _ h2
      · cases h; exact ia _ h1
    · rename_i h1 h2
      cases h; exact ia _ h1
    · exact ib _ h
set_option maxHeartbeats 8000000 in
theorem ref7shr {ok : Nat → Prop} (N : Nat) : ∀ (e : Ex), e.size ≤ N → e.Wf → ∀ (v : Value) (w : World), ReAt ok w v e.rx →
    Calls Tryd.prog 21 #[v] w fun x w' => x = .returned (shrV e.shr) ∧ Below w.heap.size w w' := by
  induction N with
  | zero => intro e hN; have := e.size_pos; omega
  | succ N ih =>
    intro e hN we v w hR
    cases e with
    | empty =>
      obtain ⟨_, _, al, cap, rfl, _, _, hrow⟩ := hR
      simp only [Ws.nil]
      rw [show (((1 : Nat) : Int)) = 1 from rfl, show (((0 : Nat) : Int)) = 0 from rfl]
      clear hrow
      go_enter Tryd.func21, Tryd.ntmps21
      go_wp2
      go_ret2
      exact ⟨rfl, (Below.refl _ w).alloc (Nat.le_refl _) _⟩
    | eps =>
      obtain ⟨_, _, al, cap, rfl, _, _, hrow⟩ := hR
      simp only [Ws.nil]
      rw [show (((2 : Nat) : Int)) = 2 from rfl, show (((0 : Nat) : Int)) = 0 from rfl]
      clear hrow
      go_enter Tryd.func21, Tryd.ntmps21
      go_wp2
      go_ret2
      exact ⟨rfl, (Below.refl _ w).alloc (Nat.le_refl _) _⟩
    | cls s =>
      obtain ⟨_, _, al, cap, rfl, _, _, hrow⟩ := hR
      have hsh : (Ex.cls s).shr = some ((u8s (bytesN s)).take 1) := by show some _ = _; unfold u8s; rw [List.map_take]
      rw [hsh]
      have hne : u8s (bytesN s) ≠ [] := by
        intro e
        refine we.2 (bytesN_inj we.1 Ws.nil_ok ?_)
        have h1 : bytesN s = [] := by unfold u8s at e; simpa using e
        rw [h1]
        unfold bytesN
        rw [eq_comm, List.filter_eq_nil_iff]
        intro n _
        rw [Ws.has_nil]; simp
      have KB := Lib.hid fun W => refBytes_any s W we.1
      generalize u8s (bytesN s) = l at *
      obtain ⟨c, l, rfl⟩ : ∃ c t, l = c :: t := by cases l with
        | nil => exact absurd rfl hne
        | cons c t => exact ⟨c, t, rfl⟩
      obtain ⟨sa, sb, sc, sd⟩ := s
      unfold Ws.v at KB
      simp only at KB
      rw [show (((3 : Nat) : Int)) = 3 from rfl]
      simp only [shrV, List.take_succ_cons, List.take_zero]
      clear hrow hsh hne we
      go_enter Tryd.func21, Tryd.ntmps21
      go_wp2_with fail
      refine (KB.out _).mono ?_
      rintro e w1 ⟨a, cp, rfl, hcp, hb1, hB⟩
      have hbw := ((Below.refl _ w).alloc (Nat.le_refl _) (.cells #[.int .u8 3, .int .u64 sa, .int .u64 sb, .int .u64 sc, .int .u64 sd, .slice al 0 cap] 27)).trans (hb1.mono (by simp))
      have h1 : BytesAt w1 a [c] := by
        obtain ⟨hm, h | ⟨b, off, rfl, hlt, hcc⟩⟩ := hB
        · simp at h
        · refine ⟨by simp only [List.length_cons] at hm ⊢; simp at hm ⊢; omega, .inr ⟨b, off, rfl, hlt, fun i hi => ?_⟩⟩
          match i, hi with
          | 0, _ =>
            have := hcc 0 (by simp)
            simpa using this
      have hcv := conv_bytes h1 cp
      simp only [List.length_cons, List.length_nil, Nat.zero_add] at hcv
      have hc1 : 1 ≤ cp := by simp only [List.length_cons] at hcp; omega
      have hc2 : (1 : Int) ≤ (cp : Int) := by omega
      simp only [List.length_cons]
      clear hb1 hB hcp
      go_wp2
      go_ret2
      exact ⟨rfl, hbw⟩
    | star a =>
      obtain ⟨_, _, al, cap, rfl, _, _, hrow⟩ := hR
      simp only [Ws.nil]
      rw [show (((6 : Nat) : Int)) = 6 from rfl, show (((0 : Nat) : Int)) = 0 from rfl]
      clear hrow
      go_enter Tryd.func21, Tryd.ntmps21
      go_wp2
      go_ret2
      exact ⟨rfl, (Below.refl _ w).alloc (Nat.le_refl _) _⟩
    | seq a b =>
      obtain ⟨_, _, al, cap, rfl, hcap, _, hrow⟩ := hR
      obtain ⟨bk, off, rfl, hlt, hn0⟩ := hrow.kid (i := 0) (by simp)
      obtain ⟨bk', off', e', hlt', hn1⟩ := hrow.kid (i := 1) (by simp)
      simp at e'
      obtain ⟨rfl, rfl⟩ := e'
      simp only [List.getElem_cons_zero, Nat.zero_mul, Nat.add_zero] at hn0
      simp only [List.getElem_cons_zero, List.getElem_cons_succ, Nat.one_mul] at hn1
      have hcap2 : 2 ≤ cap := by simpa using hcap
      obtain ⟨ka, ⟨sa, sb, sc, sd⟩, ksa, hsa⟩ := rx_form a
      obtain ⟨kb, ⟨ta, tb, tc, td⟩, ksb, hsb⟩ := rx_form b
      have ha : ∀ v w, ReAt ok w v a.rx → Calls Tryd.prog 21 #[v] w fun e w' => e = .returned (shrV a.shr) ∧ Below w.heap.size w w' := fun v w h => ih a (by simp only [Ex.size] at hN; omega) we.1 v w h
      have hb : ∀ v w, ReAt ok w v b.rx → Calls Tryd.prog 21 #[v] w fun e w' => e = .returned (shrV b.shr) ∧ Below w.heap.size w w' := fun v w h => ih b (by simp only [Ex.size] at hN; omega) we.2 v w h
      have hla := shr_len a
      have hlb := shr_len b
      rw [hsa] at hn0 ha
      rw [hsb] at hn1 hb
      have HA := Lib.hid ha
      have HB := Lib.hid hb
      have HN0 := Lib.hid hn0
      have HN1 := Lib.hid hn1
      have HV := Lib.hid (show (Ex.seq a b).shr = seqS a.shr b.shr from by rw [Ex.shr]; unfold seqS; cases a.shr <;> cases b.shr <;> rfl)
      rw [HV.out]
      clear hrow hn0 hn1 ha hb hcap hsa hsb HV
      generalize a.shr = x at *
      generalize b.shr = y at *
      have HLA := Lib.hid hla
      have HLB := Lib.hid hlb
      clear hla hlb
      simp only [Ws.nil]
      rw [show (((4 : Nat) : Int)) = 4 from rfl, show (((0 : Nat) : Int)) = 0 from rfl]
      have hb0 := (Below.refl _ w).alloc (Nat.le_refl _) (.cells #[.int .u8 4, .int .u64 0, .int .u64 0, .int .u64 0, .int .u64 0, .slice (some ⟨bk, off, none⟩) 2 cap] 27)
      have HB0 := Lib.hid hb0
      have HX := Lib.hid (blk_new w (.cells #[.int .u8 4, .int .u64 0, .int .u64 0, .int .u64 0, .int .u64 0, .slice (some ⟨bk, off, none⟩) 2 cap] 27))
      obtain ⟨al0, cap0, ⟨c0, c1, c2, c3, c4, c5⟩, hre0⟩ := HN0.out.read
      simp only at c0 c1 c2 c3 c4 c5
      have KA1 := Lib.hid (HA.out _ _ (hre0.below hb0))
      clear hre0 hb0
      cases x with
      | none =>
        simp only [shrV] at KA1
        cases y with
        | none =>
          simp only [shrV] at HB
          simp only [seqS, shrV]
          go_enter Tryd.func21, Tryd.ntmps21
          go_wp2_with fail
          refine KA1.out.mono ?_
          rintro e w1 ⟨rfl, hb1⟩
          have HB1 := Lib.hid (HB0.out.trans (hb1.mono HB0.out.size))
          have HX1 := Lib.hid ((hb1.block w.heap.size (by simp)).trans HX.out)
          clear hb1 c0 c1 c2 c3 c4 c5
          obtain ⟨x0, x1, x2, x3, x4, x5, -⟩ := cellsR HX1.out
          obtain ⟨al1, cap1, ⟨d0, d1, d2, d3, d4, d5⟩, hre1⟩ := (NodeAt.below HB1.out _ hlt HN1.out).read
          simp only at d0 d1 d2 d3 d4 d5
          have KB1 := Lib.hid (HB.out _ _ hre1)
          clear hre1
          go_wp2_with fail
          refine KB1.out.mono ?_
          rintro e w2 ⟨rfl, hb2⟩
          have HB2 := Lib.hid (HB1.out.trans (hb2.mono HB1.out.size))
          have HX2 := Lib.hid ((hb2.block w.heap.size (Array.getElem?_eq_some_iff.1 HX1.out).1).trans HX1.out)
          clear hb2 x0 x1 x2 x3 x4 x5 d0 d1 d2 d3 d4 d5
          obtain ⟨x0, x1, x2, x3, x4, x5, -⟩ := cellsR HX2.out
          go_wp2
          go_ret2
          exact ⟨rfl, HB2.out⟩
        | some y =>
          simp only [shrV] at HB
          simp only [seqS, shrV]
          go_enter Tryd.func21, Tryd.ntmps21
          go_wp2_with fail
          refine KA1.out.mono ?_
          rintro e w1 ⟨rfl, hb1⟩
          have HB1 := Lib.hid (HB0.out.trans (hb1.mono HB0.out.size))
          have HX1 := Lib.hid ((hb1.block w.heap.size (by simp)).trans HX.out)
          clear hb1 c0 c1 c2 c3 c4 c5
          obtain ⟨x0, x1, x2, x3, x4, x5, -⟩ := cellsR HX1.out
          obtain ⟨al1, cap1, ⟨d0, d1, d2, d3, d4, d5⟩, hre1⟩ := (NodeAt.below HB1.out _ hlt HN1.out).read
          simp only at d0 d1 d2 d3 d4 d5
          have KB1 := Lib.hid (HB.out _ _ hre1)
          clear hre1
          go_wp2_with fail
          refine KB1.out.mono ?_
          rintro e w2 ⟨rfl, hb2⟩
          have HB2 := Lib.hid (HB1.out.trans (hb2.mono HB1.out.size))
          have HX2 := Lib.hid ((hb2.block w.heap.size (Array.getElem?_eq_some_iff.1 HX1.out).1).trans HX1.out)
          clear hb2 x0 x1 x2 x3 x4 x5 d0 d1 d2 d3 d4 d5
          obtain ⟨x0, x1, x2, x3, x4, x5, -⟩ := cellsR HX2.out
          go_wp2
          go_ret2
          exact ⟨rfl, HB2.out⟩
      | some x =>
        simp only [shrV] at KA1
        cases y with
        | none =>
          simp only [shrV] at HB
          simp only [seqS, shrV]
          go_enter Tryd.func21, Tryd.ntmps21
          go_wp2_with fail
          refine KA1.out.mono ?_
          rintro e w1 ⟨rfl, hb1⟩
          have HB1 := Lib.hid (HB0.out.trans (hb1.mono HB0.out.size))
          have HX1 := Lib.hid ((hb1.block w.heap.size (by simp)).trans HX.out)
          clear hb1 c0 c1 c2 c3 c4 c5
          obtain ⟨x0, x1, x2, x3, x4, x5, -⟩ := cellsR HX1.out
          obtain ⟨al1, cap1, ⟨d0, d1, d2, d3, d4, d5⟩, hre1⟩ := (NodeAt.below HB1.out _ hlt HN1.out).read
          simp only at d0 d1 d2 d3 d4 d5
          have KB1 := Lib.hid (HB.out _ _ hre1)
          clear hre1
          go_wp2_with fail
          refine KB1.out.mono ?_
          rintro e w2 ⟨rfl, hb2⟩
          have HB2 := Lib.hid (HB1.out.trans (hb2.mono HB1.out.size))
          have HX2 := Lib.hid ((hb2.block w.heap.size (Array.getElem?_eq_some_iff.1 HX1.out).1).trans HX1.out)
          clear hb2 x0 x1 x2 x3 x4 x5 d0 d1 d2 d3 d4 d5
          obtain ⟨x0, x1, x2, x3, x4, x5, -⟩ := cellsR HX2.out
          go_wp2
          go_ret2
          exact ⟨rfl, HB2.out⟩
        | some y =>
          simp only [shrV] at HB
          have hx := HLA.out x rfl
          have hy := HLB.out y rfl
          have zx : (⟨x.toArray⟩ : ByteArray).size = x.length := by show x.toArray.size = _; simp
          have zy : (⟨y.toArray⟩ : ByteArray).size = y.length := by show y.toArray.size = _; simp
          have hap : (⟨x.toArray⟩ : ByteArray) ++ ⟨y.toArray⟩ = ⟨(x ++ y).toArray⟩ := by apply ByteArray.ext; simp
          have hbig : ¬ 9223372036854775807 < (⟨x.toArray⟩ : ByteArray).size + (⟨y.toArray⟩ : ByteArray).size := by omega
          have wk : IntKind.i64.wrap ((x.length : Int) + (y.length : Int)) = (x.length : Int) + (y.length : Int) := by rw [IntKind.wrap_i64]; omega
          by_cases hl : x.length + y.length ≤ 100
          · have q1 : decide ((x.length : Int) + (y.length : Int) ≤ 100) = true := decide_eq_true (by omega)
            have q2 : decide (x.length + y.length ≤ 100) = true := decide_eq_true hl
            simp only [seqS, if_pos hl, shrV]
            clear hl
            go_enter Tryd.func21, Tryd.ntmps21
            go_wp2_with fail
            refine KA1.out.mono ?_
            rintro e w1 ⟨rfl, hb1⟩
            have HB1 := Lib.hid (HB0.out.trans (hb1.mono HB0.out.size))
            have HX1 := Lib.hid ((hb1.block w.heap.size (by simp)).trans HX.out)
            clear hb1 c0 c1 c2 c3 c4 c5
            obtain ⟨x0, x1, x2, x3, x4, x5, -⟩ := cellsR HX1.out
            obtain ⟨al1, cap1, ⟨d0, d1, d2, d3, d4, d5⟩, hre1⟩ := (NodeAt.below HB1.out _ hlt HN1.out).read
            simp only at d0 d1 d2 d3 d4 d5
            have KB1 := Lib.hid (HB.out _ _ hre1)
            clear hre1
            go_wp2_with fail
            refine KB1.out.mono ?_
            rintro e w2 ⟨rfl, hb2⟩
            have HB2 := Lib.hid (HB1.out.trans (hb2.mono HB1.out.size))
            have HX2 := Lib.hid ((hb2.block w.heap.size (Array.getElem?_eq_some_iff.1 HX1.out).1).trans HX1.out)
            clear hb2 x0 x1 x2 x3 x4 x5 d0 d1 d2 d3 d4 d5
            obtain ⟨x0, x1, x2, x3, x4, x5, -⟩ := cellsR HX2.out
            go_wp2
            go_ret2
            exact ⟨rfl, HB2.out⟩
          · have q1 : decide ((x.length : Int) + (y.length : Int) ≤ 100) = false := decide_eq_false (by omega)
            have q2 : decide (x.length + y.length ≤ 100) = false := decide_eq_false hl
            simp only [seqS, if_neg hl, shrV]
            clear hl
            go_enter Tryd.func21, Tryd.ntmps21
            go_wp2_with fail
            refine KA1.out.mono ?_
            rintro e w1 ⟨rfl, hb1⟩
            have HB1 := Lib.hid (HB0.out.trans (hb1.mono HB0.out.size))
            have HX1 := Lib.hid ((hb1.block w.heap.size (by simp)).trans HX.out)
            clear hb1 c0 c1 c2 c3 c4 c5
            obtain ⟨x0, x1, x2, x3, x4, x5, -⟩ := cellsR HX1.out
            obtain ⟨al1, cap1, ⟨d0, d1, d2, d3, d4, d5⟩, hre1⟩ := (NodeAt.below HB1.out _ hlt HN1.out).read
            simp only at d0 d1 d2 d3 d4 d5
            have KB1 := Lib.hid (HB.out _ _ hre1)
            clear hre1
            go_wp2_with fail
            refine KB1.out.mono ?_
            rintro e w2 ⟨rfl, hb2⟩
            have HB2 := Lib.hid (HB1.out.trans (hb2.mono HB1.out.size))
            have HX2 := Lib.hid ((hb2.block w.heap.size (Array.getElem?_eq_some_iff.1 HX1.out).1).trans HX1.out)
            clear hb2 x0 x1 x2 x3 x4 x5 d0 d1 d2 d3 d4 d5
            obtain ⟨x0, x1, x2, x3, x4, x5, -⟩ := cellsR HX2.out
            go_wp2
            go_ret2
            exact ⟨rfl, HB2.out⟩
    | alt a b =>
      obtain ⟨_, _, al, cap, rfl, hcap, _, hrow⟩ := hR
      obtain ⟨bk, off, rfl, hlt, hn0⟩ := hrow.kid (i := 0) (by simp)
      obtain ⟨bk', off', e', hlt', hn1⟩ := hrow.kid (i := 1) (by simp)
      simp at e'
      obtain ⟨rfl, rfl⟩ := e'
      simp only [List.getElem_cons_zero, Nat.zero_mul, Nat.add_zero] at hn0
      simp only [List.getElem_cons_zero, List.getElem_cons_succ, Nat.one_mul] at hn1
      have hcap2 : 2 ≤ cap := by simpa using hcap
      obtain ⟨ka, ⟨sa, sb, sc, sd⟩, ksa, hsa⟩ := rx_form a
      obtain ⟨kb, ⟨ta, tb, tc, td⟩, ksb, hsb⟩ := rx_form b
      have ha : ∀ v w, ReAt ok w v a.rx → Calls Tryd.prog 21 #[v] w fun e w' => e = .returned (shrV a.shr) ∧ Below w.heap.size w w' := fun v w h => ih a (by simp only [Ex.size] at hN; omega) we.1 v w h
      have hb : ∀ v w, ReAt ok w v b.rx → Calls Tryd.prog 21 #[v] w fun e w' => e = .returned (shrV b.shr) ∧ Below w.heap.size w w' := fun v w h => ih b (by simp only [Ex.size] at hN; omega) we.2 v w h
      have hla := shr_len a
      have hlb := shr_len b
      rw [hsa] at hn0 ha
      rw [hsb] at hn1 hb
      have HA := Lib.hid ha
      have HB := Lib.hid hb
      have HN0 := Lib.hid hn0
      have HN1 := Lib.hid hn1
      have HV := Lib.hid (show (Ex.alt a b).shr = altS a.shr b.shr from by rw [Ex.shr]; unfold altS; cases a.shr <;> cases b.shr <;> rfl)
      rw [HV.out]
      clear hrow hn0 hn1 ha hb hcap hsa hsb HV
      generalize a.shr = x at *
      generalize b.shr = y at *
      have HLA := Lib.hid hla
      have HLB := Lib.hid hlb
      clear hla hlb
      simp only [Ws.nil]
      rw [show (((5 : Nat) : Int)) = 5 from rfl, show (((0 : Nat) : Int)) = 0 from rfl]
      have hb0 := (Below.refl _ w).alloc (Nat.le_refl _) (.cells #[.int .u8 5, .int .u64 0, .int .u64 0, .int .u64 0, .int .u64 0, .slice (some ⟨bk, off, none⟩) 2 cap] 27)
      have HB0 := Lib.hid hb0
      have HX := Lib.hid (blk_new w (.cells #[.int .u8 5, .int .u64 0, .int .u64 0, .int .u64 0, .int .u64 0, .slice (some ⟨bk, off, none⟩) 2 cap] 27))
      obtain ⟨al0, cap0, ⟨c0, c1, c2, c3, c4, c5⟩, hre0⟩ := HN0.out.read
      simp only at c0 c1 c2 c3 c4 c5
      have KA1 := Lib.hid (HA.out _ _ (hre0.below hb0))
      clear hre0 hb0
      cases x with
      | none =>
        simp only [shrV] at KA1
        cases y with
        | none =>
          simp only [shrV] at HB
          simp only [altS, shrV]
          go_enter Tryd.func21, Tryd.ntmps21
          go_wp2_with fail
          refine KA1.out.mono ?_
          rintro e w1 ⟨rfl, hb1⟩
          have HB1 := Lib.hid (HB0.out.trans (hb1.mono HB0.out.size))
          have HX1 := Lib.hid ((hb1.block w.heap.size (by simp)).trans HX.out)
          clear hb1 c0 c1 c2 c3 c4 c5
          obtain ⟨x0, x1, x2, x3, x4, x5, -⟩ := cellsR HX1.out
          obtain ⟨al1, cap1, ⟨d0, d1, d2, d3, d4, d5⟩, hre1⟩ := (NodeAt.below HB1.out _ hlt HN1.out).read
          simp only at d0 d1 d2 d3 d4 d5
          have KB1 := Lib.hid (HB.out _ _ hre1)
          clear hre1
          go_wp2_with fail
          refine KB1.out.mono ?_
          rintro e w2 ⟨rfl, hb2⟩
          have HB2 := Lib.hid (HB1.out.trans (hb2.mono HB1.out.size))
          have HX2 := Lib.hid ((hb2.block w.heap.size (Array.getElem?_eq_some_iff.1 HX1.out).1).trans HX1.out)
          clear hb2 x0 x1 x2 x3 x4 x5 d0 d1 d2 d3 d4 d5
          obtain ⟨x0, x1, x2, x3, x4, x5, -⟩ := cellsR HX2.out
          go_wp2
          go_ret2
          exact ⟨rfl, HB2.out⟩
        | some y =>
          simp only [shrV] at HB
          simp only [altS, shrV]
          go_enter Tryd.func21, Tryd.ntmps21
          go_wp2_with fail
          refine KA1.out.mono ?_
          rintro e w1 ⟨rfl, hb1⟩
          have HB1 := Lib.hid (HB0.out.trans (hb1.mono HB0.out.size))
          have HX1 := Lib.hid ((hb1.block w.heap.size (by simp)).trans HX.out)
          clear hb1 c0 c1 c2 c3 c4 c5
          obtain ⟨x0, x1, x2, x3, x4, x5, -⟩ := cellsR HX1.out
          obtain ⟨al1, cap1, ⟨d0, d1, d2, d3, d4, d5⟩, hre1⟩ := (NodeAt.below HB1.out _ hlt HN1.out).read
          simp only at d0 d1 d2 d3 d4 d5
          have KB1 := Lib.hid (HB.out _ _ hre1)
          clear hre1
          go_wp2_with fail
          refine KB1.out.mono ?_
          rintro e w2 ⟨rfl, hb2⟩
          have HB2 := Lib.hid (HB1.out.trans (hb2.mono HB1.out.size))
          have HX2 := Lib.hid ((hb2.block w.heap.size (Array.getElem?_eq_some_iff.1 HX1.out).1).trans HX1.out)
          clear hb2 x0 x1 x2 x3 x4 x5 d0 d1 d2 d3 d4 d5
          obtain ⟨x0, x1, x2, x3, x4, x5, -⟩ := cellsR HX2.out
          go_wp2
          go_ret2
          exact ⟨rfl, HB2.out⟩
      | some x =>
        simp only [shrV] at KA1
        cases y with
        | none =>
          simp only [shrV] at HB
          simp only [altS, shrV]
          go_enter Tryd.func21, Tryd.ntmps21
          go_wp2_with fail
          refine KA1.out.mono ?_
          rintro e w1 ⟨rfl, hb1⟩
          have HB1 := Lib.hid (HB0.out.trans (hb1.mono HB0.out.size))
          have HX1 := Lib.hid ((hb1.block w.heap.size (by simp)).trans HX.out)
          clear hb1 c0 c1 c2 c3 c4 c5
          obtain ⟨x0, x1, x2, x3, x4, x5, -⟩ := cellsR HX1.out
          obtain ⟨al1, cap1, ⟨d0, d1, d2, d3, d4, d5⟩, hre1⟩ := (NodeAt.below HB1.out _ hlt HN1.out).read
          simp only at d0 d1 d2 d3 d4 d5
          have KB1 := Lib.hid (HB.out _ _ hre1)
          clear hre1
          go_wp2_with fail
          refine KB1.out.mono ?_
          rintro e w2 ⟨rfl, hb2⟩
          have HB2 := Lib.hid (HB1.out.trans (hb2.mono HB1.out.size))
          have HX2 := Lib.hid ((hb2.block w.heap.size (Array.getElem?_eq_some_iff.1 HX1.out).1).trans HX1.out)
          clear hb2 x0 x1 x2 x3 x4 x5 d0 d1 d2 d3 d4 d5
          obtain ⟨x0, x1, x2, x3, x4, x5, -⟩ := cellsR HX2.out
          go_wp2
          go_ret2
          exact ⟨rfl, HB2.out⟩
        | some y =>
          simp only [shrV] at HB
          simp only [altS]
          have hx := HLA.out x rfl
          have hy := HLB.out y rfl
          have KH := Lib.hid fun W => ref7ahead ⟨y.toArray⟩ ⟨x.toArray⟩ W (by show y.toArray.size ≤ _; simp; omega) (by show x.toArray.size ≤ _; simp; omega)
          simp only at KH
          cases hq : aheadL y x with
          | true =>
            rw [hq] at KH
            simp only [if_true, shrV]
            clear hq
            go_enter Tryd.func21, Tryd.ntmps21
            go_wp2_with fail
            refine KA1.out.mono ?_
            rintro e w1 ⟨rfl, hb1⟩
            have HB1 := Lib.hid (HB0.out.trans (hb1.mono HB0.out.size))
            have HX1 := Lib.hid ((hb1.block w.heap.size (by simp)).trans HX.out)
            clear hb1 c0 c1 c2 c3 c4 c5
            obtain ⟨x0, x1, x2, x3, x4, x5, -⟩ := cellsR HX1.out
            obtain ⟨al1, cap1, ⟨d0, d1, d2, d3, d4, d5⟩, hre1⟩ := (NodeAt.below HB1.out _ hlt HN1.out).read
            simp only at d0 d1 d2 d3 d4 d5
            have KB1 := Lib.hid (HB.out _ _ hre1)
            clear hre1
            go_wp2_with fail
            refine KB1.out.mono ?_
            rintro e w2 ⟨rfl, hb2⟩
            have HB2 := Lib.hid (HB1.out.trans (hb2.mono HB1.out.size))
            have HX2 := Lib.hid ((hb2.block w.heap.size (Array.getElem?_eq_some_iff.1 HX1.out).1).trans HX1.out)
            clear hb2 x0 x1 x2 x3 x4 x5 d0 d1 d2 d3 d4 d5
            obtain ⟨x0, x1, x2, x3, x4, x5, -⟩ := cellsR HX2.out
            go_wp2_with fail
            refine (KH.out _).mono ?_
            rintro e w3 ⟨rfl, hb3⟩
            go_wp2
            go_ret2
            exact ⟨rfl, HB2.out.trans (hb3.mono HB2.out.size)⟩
          | false =>
            rw [hq] at KH
            simp only [Bool.false_eq_true, if_false, shrV]
            clear hq
            go_enter Tryd.func21, Tryd.ntmps21
            go_wp2_with fail
            refine KA1.out.mono ?_
            rintro e w1 ⟨rfl, hb1⟩
            have HB1 := Lib.hid (HB0.out.trans (hb1.mono HB0.out.size))
            have HX1 := Lib.hid ((hb1.block w.heap.size (by simp)).trans HX.out)
            clear hb1 c0 c1 c2 c3 c4 c5
            obtain ⟨x0, x1, x2, x3, x4, x5, -⟩ := cellsR HX1.out
            obtain ⟨al1, cap1, ⟨d0, d1, d2, d3, d4, d5⟩, hre1⟩ := (NodeAt.below HB1.out _ hlt HN1.out).read
            simp only at d0 d1 d2 d3 d4 d5
            have KB1 := Lib.hid (HB.out _ _ hre1)
            clear hre1
            go_wp2_with fail
            refine KB1.out.mono ?_
            rintro e w2 ⟨rfl, hb2⟩
            have HB2 := Lib.hid (HB1.out.trans (hb2.mono HB1.out.size))
            have HX2 := Lib.hid ((hb2.block w.heap.size (Array.getElem?_eq_some_iff.1 HX1.out).1).trans HX1.out)
            clear hb2 x0 x1 x2 x3 x4 x5 d0 d1 d2 d3 d4 d5
            obtain ⟨x0, x1, x2, x3, x4, x5, -⟩ := cellsR HX2.out
            go_wp2_with fail
            refine (KH.out _).mono ?_
            rintro e w3 ⟨rfl, hb3⟩
            go_wp2
            go_ret2
            exact ⟨rfl, HB2.out.trans (hb3.mono HB2.out.size)⟩
set_option maxHeartbeats 2000000 in
theorem ref7Shortest {ok : Nat → Prop} (r : Rx) (v : Value) (w : World) (hbig : r.size ≤ 1000000) (h : ReAt ok w v r) :
    Calls Tryd.prog 8 #[v] w fun e w' => e = .returned (shrV (shrX r)) ∧ Below w.heap.size w w' := by
  obtain ⟨x0, x1, x2, x3, x4, xl, xn, xc, rfl⟩ := cells_re h
  have hb0 := (Below.refl _ w).alloc (Nat.le_refl _) (.cells #[.int .u8 x0, .int .u64 x1, .int .u64 x2, .int .u64 x3, .int .u64 x4, .slice xl xn xc] 27)
  have KM := Lib.hid (refMay_any r _ _ hbig (h.below hb0))
  have HX := Lib.hid (blk_new w (.cells #[.int .u8 x0, .int .u64 x1, .int .u64 x2, .int .u64 x3, .int .u64 x4, .slice xl xn xc] 27))
  have HB0 := Lib.hid hb0
  cases hm : mayR r with
  | false =>
    have hq : shrX r = none := by unfold shrX; rw [exX_no hm]; rfl
    rw [hq]
    rw [hm] at KM
    simp only [shrV]
    clear hm hq h hb0
    go_enter Tryd.func8, Tryd.ntmps8
    go_wp2_with fail
    refine KM.out.mono ?_
    rintro e w1 ⟨rfl, hb1⟩
    go_wp2
    go_ret2
    exact ⟨rfl, HB0.out.trans (hb1.mono HB0.out.size)⟩
  | true =>
    obtain ⟨e0, he0, we, hs⟩ := may_ex h hm
    have hq : shrX r = e0.shr := by unfold shrX; rw [← he0, exX_of we hs]; rfl
    rw [hq]
    rw [hm] at KM
    have KN := Lib.hid fun W (hb : Below w.heap.size w W) => ref7shr (ok := ok) e0.size e0 (Nat.le_refl _) we (.agg #[.int .u8 x0, .int .u64 x1, .int .u64 x2, .int .u64 x3, .int .u64 x4, .slice xl xn xc]) W (by rw [he0]; exact h.below hb)
    clear hm hq h hb0 he0
    generalize e0.shr = sh at *
    cases sh with
    | none =>
      simp only [shrV] at KN ⊢
      go_enter Tryd.func8, Tryd.ntmps8
      go_wp2_with fail
      refine KM.out.mono ?_
      rintro e w1 ⟨rfl, hb1⟩
      have hbw := HB0.out.trans (hb1.mono HB0.out.size)
      obtain ⟨c0, c1, c2, c3, c4, c5, -⟩ := cellsR ((hb1.block w.heap.size (by simp)).trans HX.out)
      go_wp2_with fail
      refine (KN.out _ hbw).mono ?_
      rintro e w2 ⟨rfl, hb2⟩
      go_wp2
      go_ret2
      exact ⟨rfl, hbw.trans (hb2.mono hbw.size)⟩
    | some x =>
      simp only [shrV] at KN ⊢
      go_enter Tryd.func8, Tryd.ntmps8
      go_wp2_with fail
      refine KM.out.mono ?_
      rintro e w1 ⟨rfl, hb1⟩
      have hbw := HB0.out.trans (hb1.mono HB0.out.size)
      obtain ⟨c0, c1, c2, c3, c4, c5, -⟩ := cellsR ((hb1.block w.heap.size (by simp)).trans HX.out)
      go_wp2_with fail
      refine (KN.out _ hbw).mono ?_
      rintro e w2 ⟨rfl, hb2⟩
      go_wp2
      go_ret2
      exact ⟨rfl, hbw.trans (hb2.mono hbw.size)⟩
end Go.Proofs.YthnecifdgoeenaaDoor
