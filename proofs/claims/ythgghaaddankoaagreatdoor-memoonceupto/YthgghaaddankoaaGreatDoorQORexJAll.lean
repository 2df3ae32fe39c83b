/- Lemmas of mine, merged: QORexJ, QORexK, QORexL, QORexN, QORexP, QORexS, QORexU, QONullB, QONormX, QOMemM, QORdrA, QOMemN, QOOrdD, QOOrdE, QONormC0, QONormC, QONormD, QORdrQ. -/
import Derived.Test.YthgghaaddankoaaGreatDoorQORexEAll
import Derived.Test.YthgghaaddankoaaGreatDoorQOSetCAll
import Derived.StillTailTactics
import Derived.IntWalk
import Derived.OwnWalk
import Derived.Test.YthgghaaddankoaaGreatDoorQORexBAll
import Derived.RegionTactic
import Derived.Deep.RegionHeld3
import Derived.Test.YthgghaaddankoaaGreatDoorQOFstIAll
import Derived.WalkKit
import Derived.WalkSpells
import Derived.WalkLawsBesides
import Derived.Lib.OthersKept
import Derived.Lib.Hide
import Derived.Deep.QuietTactic
import Derived.Laws.DeepStrings4
import Derived.BigQuiet
import Derived.BigRegion
import Derived.Recover
import Derived.Test.YthgghaaddankoaaGreatDoorRows
import Derived.Test.YthgghaaddankoaaGreatDoorQOSetEAll
import Derived.Test.YthgghaaddankoaaGreatDoorQOSetAAll
import Derived.Defers
/- Lemmas of mine. -/
namespace Go.Proofs.YthgghaaddankoaaGreatDoor
open Go.RowKit
theorem refSame {ok ok' : Nat → Prop} (r t : Rx) (v u : Value) (w : World) (h : ReAt ok w v r) (h' : ReAt ok' w u t) :
    Calls Tryz.prog 17 #[v, u] w fun e w' => e = .returned (.bool (sameR r t)) ∧ Below w.heap.size w w' := refSame_any r.size r t (Nat.le_refl _) v u w h h'
open Go.RowKit
structure But (g B : Nat) (w w' : World) : Prop where
  os : w'.os = w.os
  tape : w'.tape = w.tape
  output : w'.output = w.output
  size : w.heap.size ≤ w'.heap.size
  block : ∀ k, k < B → k ≠ g → w'.heap[k]? = w.heap[k]?
theorem But.refl (g B : Nat) (w : World) : But g B w w := ⟨rfl, rfl, rfl, Nat.le_refl _, fun _ _ _ => rfl⟩
theorem But.trans {g B : Nat} {a b c : World} (h : But g B a b) (k : But g B b c) : But g B a c :=
  ⟨k.os.trans h.os, k.tape.trans h.tape, k.output.trans h.output, Nat.le_trans h.size k.size, fun i hi hg => (k.block i hi hg).trans (h.block i hi hg)⟩
theorem But.mono {g B B' : Nat} {w w' : World} (h : But g B w w') (hB : B' ≤ B) : But g B' w w' := ⟨h.os, h.tape, h.output, h.size, fun k hk hg => h.block k (Nat.lt_of_lt_of_le hk hB) hg⟩
theorem But.of {g B : Nat} {w w' : World} (h : Below B w w') : But g B w w' := ⟨h.os, h.tape, h.output, h.size, fun k hk _ => h.block k hk⟩
theorem But.below {g B : Nat} {w w' : World} (h : But g B w w') (hB : B ≤ g) : Below B w w' := ⟨h.os, h.tape, h.output, h.size, fun k hk => h.block k hk (by omega)⟩
theorem But.set {g B : Nat} {w w' : World} (h : But g B w w') (o : Nat) (v : Value) : But g B w (w'.setCell ⟨g, o, none⟩ v) :=
  h.trans ⟨rfl, rfl, rfl, by simp [World.setCell], fun k _ hg => Below.heap_setCell _ _ _ _ hg⟩
theorem But.kept {g : Nat} {w w' : World} {ok : Nat → Prop} (h : But g w.heap.size w w') (hok : ∀ b, ok b → b ≠ g) : Kept ok ok w w' := ⟨h.size, fun b h1 h2 => ⟨h2, h.block b h1 (hok b h2)⟩⟩
def Left (w : World) (g : Nat) (z : Int) : Prop := w.heap[g]? = some (.cells #[.int .i64 z] 3)
theorem Left.cells {w : World} {g : Nat} {z : Int} (h : Left w g z) : w.cell? ⟨g, 0, none⟩ = some (.int .i64 z) ∧ w.frozen? ⟨g, 0, none⟩ = false := by
  unfold Left at h
  exact ⟨by rw [Lib.cell_of_heap h]; rfl, Lib.frozen_of_heap h 0⟩
theorem Left.lt {w : World} {g : Nat} {z : Int} (h : Left w g z) : g < w.heap.size := (Array.getElem?_eq_some_iff.1 h).1
theorem Left.set {w : World} {g : Nat} {z : Int} (h : Left w g z) (y : Int) : Left (w.setCell ⟨g, 0, none⟩ (.int .i64 y)) g y := by
  unfold Left at h ⊢
  simp [World.setCell, Array.getElem?_modify, h]
def MayPost (q : Bool) (n m g : Nat) (w : World) (e : Ending) (w' : World) : Prop := e = .returned (.bool q) ∧ (∃ z : Int, Left w' g z ∧ (q = true → z = (n : Int) - m)) ∧ But g w.heap.size w w'
def MayAt (ok : Nat → Prop) (g N : Nat) : Prop := ∀ (r : Rx), r.size ≤ N → ∀ (n : Nat) (v : Value) (w : World), n ≤ 2000 → Left w g n → ReAt ok w v r →
    Calls Tryz.prog 40 #[v, .pointer (some ⟨g, 0, none⟩)] w (MayPost (mayN r n) n r.size g w)
def PtrAt (w : World) (gb g : Nat) : Prop := w.heap[gb]? = some (.cells #[.pointer (some ⟨g, 0, none⟩)] 90)
theorem PtrAt.cell {w : World} {gb g : Nat} (h : PtrAt w gb g) : w.cell? ⟨gb, 0, none⟩ = some (.pointer (some ⟨g, 0, none⟩)) := by
  unfold PtrAt at h
  rw [Lib.cell_of_heap h]; rfl
theorem PtrAt.lt {w : World} {gb g : Nat} (h : PtrAt w gb g) : gb < w.heap.size := (Array.getElem?_eq_some_iff.1 h).1
set_option maxHeartbeats 1000000 in
theorem closure_of {ok : Nat → Prop} {g N : Nat} (ih : MayAt ok g N) (r : Rx) (hr : r.size ≤ N) (n gb : Nat) (v : Value) (w : World) (hn : n ≤ 2000) (hL : Left w g n) (hP : PtrAt w gb g) (h : ReAt ok w v r) :
    Calls Tryz.prog 56 #[v, .pointer (some ⟨gb, 0, none⟩)] w (fun e w' => e = .returned (.bool (!mayN r n)) ∧ (∃ z : Int, Left w' g z ∧ (mayN r n = true → z = (n : Int) - r.size)) ∧ But g w.heap.size w w') := by
  have K := Lib.hid fun W (hb : Below w.heap.size w W) => ih r hr n v W hn ((hb.block _ hL.lt).trans hL) (h.below hb)
  obtain ⟨x0, x1, x2, x3, x4, bl, n', cp, rfl⟩ := cells_re h
  have c := hP.cell
  have hlt := hP.lt
  clear ih h hL hP
  generalize mayN r n = q at *
  go_enter Tryz.func56, Tryz.ntmps56
  go_wp2_with fail
  refine (K.out _ ((Below.refl _ w).alloc (Nat.le_refl _) _)).mono ?_
  rintro e w1 ⟨rfl, hz, hb⟩
  have HZ := Lib.hid hz
  have HB : But g w.heap.size w w1 := (But.of ((Below.refl _ w).alloc (Nat.le_refl _) _)).trans (hb.mono (by simp))
  clear hz hb
  go_wp2
  go_ret
  exact ⟨rfl, HZ.out, HB⟩
open Go.RowKit
def idxInv (l : List Rx) (n g gb : Nat) (w : World) (y : Value) (wr : World) : Prop := ∃ i m : Nat, i ≤ l.length ∧ y = .int .i64 i ∧ mayNs (l.take i) n = true ∧ m = n - Rx.sizes (l.take i) ∧ Left wr g m ∧ PtrAt wr gb g ∧ But g w.heap.size w wr
def IdxPost (q : Bool) (n m g : Nat) (w : World) (e : Ending) (w' : World) : Prop := ∃ x : Int, decide (0 ≤ x) = !q ∧ e = .returned (.int .i64 x) ∧ (∃ z : Int, Left w' g z ∧ (q = true → z = (n : Int) - m)) ∧ But g w.heap.size w w'
theorem mayNs_le {l : List Rx} {n : Nat} (h : mayNs l n = true) : Rx.sizes l ≤ n := by
  simp [mayNs] at h; omega
set_option maxHeartbeats 4000000 in
theorem index_of {ok : Nat → Prop} {g N : Nat} (hok : ∀ b, ok b → b ≠ g) (ih : MayAt ok g N) (l : List Rx) (hN : Rx.sizes l ≤ N) (n gb : Nat) (al : Option Addr) (cap : Nat) (w : World) (hn : n ≤ 2000) (hl : l.length < 2199023255552) (hgb : gb ≠ g) (hL : Left w g n) (hP : PtrAt w gb g) (hR : RowAt ok w al l) :
    Calls Tryz.prog 54 #[.slice al l.length cap, .func (.func 56) #[] #[.pointer (some ⟨gb, 0, none⟩)]] w (IdxPost (mayNs l n) n (Rx.sizes l) g w) := by
  have HI := Lib.hid ih
  have HR := Lib.hid hR
  have HL := Lib.hid hL
  have HP := Lib.hid hP
  clear ih hR hL hP
  go_enter Tryz.func54, Tryz.ntmps54
  go_wp2
  go_loopw [8] (fun y wr => idxInv l n g gb w y wr) (fun y _ => l.length - (intOf y).toNat)
  case atStart => exact ⟨0, n, Nat.zero_le _, rfl, by simp [mayNs, goodRs, Rx.sizes], by simp [Rx.sizes], HL.out, HP.out, But.refl _ _ _⟩
  case round =>
    obtain ⟨i, m, hi, rfl, hmay, hm, hleft, hptr, hb⟩ := hrel
    have HM := Lib.hid hm
    have HY := Lib.hid hmay
    have HLe := Lib.hid hleft
    have HPt := Lib.hid hptr
    have hmn : m ≤ 2000 := by omega
    clear hm hmay hleft hptr HL HP
    by_cases hlt : i < l.length
    · obtain ⟨b, off, hab, hblt, hbok, hnode⟩ := HR.out.kidOk hlt
      subst hab
      have hkid := NodeAt.go (hb.kept hok) _ (hb.block b hblt (hok b hbok)) hnode
      have hkz := size_kid hlt
      have HS1 := fun h => mayNs_step (n := n) hlt HY.out h
      have HS2 := fun h => mayNs_stop (n := n) hlt HY.out h
      have htk := sizes_take l i hlt
      rw [← HM.out] at HS1 HS2
      have hsm : mayN l[i] m = true → l[i].size ≤ m := fun h => by simp [mayN] at h; omega
      clear hnode
      generalize l[i] = kid at *
      obtain ⟨k', ⟨ta, tb, tc, td⟩, ks'⟩ := kid
      obtain ⟨al', cap', ⟨c0, c1, c2, c3, c4, c5⟩, hre⟩ := hkid.read
      simp only at c0 c1 c2 c3 c4 c5
      have K := Lib.hid (closure_of HI.out _ (Nat.le_trans hkz hN) m gb _ wr hmn HLe.out HPt.out hre)
      generalize (Rx.node k' ⟨ta, tb, tc, td⟩ ks').size = z at *
      generalize mayN (Rx.node k' ⟨ta, tb, tc, td⟩ ks') m = q at *
      have T1 := Lib.hid HS1
      have T2 := Lib.hid HS2
      have T3 := Lib.hid htk
      have T4 := Lib.hid hsm
      clear hkid hre HS1 HS2 htk hsm
      have q1 : (i : Int) < (l.length : Int) := by omega
      go_wp2_with fail
      refine K.out.mono ?_
      rintro e w1 ⟨rfl, ⟨x, hx, hxz⟩, hb1⟩
      have HX := Lib.hid hx
      have HXZ := Lib.hid hxz
      have HP1 := Lib.hid (show PtrAt w1 gb g from (hb1.block _ HPt.out.lt hgb).trans HPt.out)
      replace hb := hb.trans (hb1.mono hb.size)
      clear hx hxz hb1 c0 c1 c2 c3 c4 c5
      cases q with
      | true =>
        go_wp2
        refine ⟨⟨i + 1, m - z, by omega, by go_num, T1.out trivial, ?_, ?_, HP1.out, hb⟩, by simp [intOf]; omega⟩
        · have := T3.out; have := HM.out; omega
        · have h := HX.out
          rw [HXZ.out trivial] at h
          have := T4.out trivial
          rw [show ((m - z : Nat) : Int) = (m : Int) - z from by omega]
          exact h
      | false =>
        go_wp2
        go_ret
        refine ⟨i, ?_, rfl, ⟨x, HX.out, fun h => ?_⟩, hb⟩
        · rw [T2.out trivial]; simp
        · rw [T2.out trivial] at h; cases h
    · have he : l.take i = l := List.take_of_length_le (by omega)
      rw [he] at HY HM
      go_wp2
      go_ret
      refine ⟨-1, ?_, rfl, ⟨m, HLe.out, fun _ => ?_⟩, hb⟩
      · rw [HY.out]; rfl
      · have := HM.out; have := mayNs_le HY.out; omega
theorem contains_of {ok : Nat → Prop} {g N : Nat} (hok : ∀ b, ok b → b ≠ g) (ih : MayAt ok g N) (l : List Rx) (hN : Rx.sizes l ≤ N) (n gb : Nat) (al : Option Addr) (cap : Nat) (w : World) (hn : n ≤ 2000) (hl : l.length < 2199023255552) (hgb : gb ≠ g) (hL : Left w g n) (hP : PtrAt w gb g) (hR : RowAt ok w al l) :
    Calls Tryz.prog 38 #[.slice al l.length cap, .func (.func 56) #[] #[.pointer (some ⟨gb, 0, none⟩)]] w fun e w' => e = .returned (.bool (!mayNs l n)) ∧ (∃ z : Int, Left w' g z ∧ (mayNs l n = true → z = (n : Int) - Rx.sizes l)) ∧ But g w.heap.size w w' := by
  have K := Lib.hid (index_of hok ih l hN n gb al cap w hn hl hgb hL hP hR)
  clear ih hL hP hR
  generalize mayNs l n = q at *
  go_enter Tryz.func38, Tryz.ntmps38
  go_wp2_with fail
  refine K.out.mono ?_
  rintro e w1 ⟨x, hx, rfl, hz, hb⟩
  have HX := Lib.hid hx
  have HZ := Lib.hid hz
  clear hx hz
  go_wp2
  go_ret
  exact ⟨by rw [← HX.out]; rfl, HZ.out, hb⟩
theorem mayN_node (k : Nat) (s : Ws) (ks : List Rx) (n : Nat) : mayN (.node k s ks) n = (decide (0 < n) && (nodeGood k ks.length (bareB s) && mayNs ks (n - 1))) := by
  unfold mayN mayNs goodR Rx.size
  by_cases h : 0 < n
  · have e : decide (1 + Rx.sizes ks ≤ n) = decide (Rx.sizes ks ≤ n - 1) := by rw [decide_eq_decide]; omega
    rw [e]; simp [h, Bool.and_assoc]
  · have e : decide (1 + Rx.sizes ks ≤ n) = false := by simp; omega
    rw [e]; simp [h]
def mayW (w : World) (g : Nat) (z : Int) (o : Obj) : World := ((w.setCell ⟨g, 0, none⟩ (.int .i64 z)).alloc o).alloc (.cells #[.pointer (some ⟨g, 0, none⟩)] 90)
theorem mayW_facts {w : World} {g : Nat} {y : Int} (h : Left w g y) (z : Int) (o : Obj) :
    Left (mayW w g z o) g z ∧ PtrAt (mayW w g z o) (w.heap.size + 1) g ∧ (mayW w g z o).heap[w.heap.size]? = some o ∧ But g w.heap.size w (mayW w g z o) ∧ (mayW w g z o).heap.size = w.heap.size + 2 := by
  have hg := h.lt
  have hs : (w.setCell ⟨g, 0, none⟩ (.int .i64 z)).heap.size = w.heap.size := by simp [World.setCell]
  refine ⟨(Below.heap_alloc _ _ _ (by rw [World.size_alloc, hs]; omega)).trans ((Below.heap_alloc _ _ _ (by rw [hs]; exact hg)).trans (h.set z)), blk_at _ _ (by rw [World.size_alloc, hs]), (Below.heap_alloc _ _ _ (by rw [World.size_alloc, hs]; omega)).trans (blk_at _ _ hs.symm), ?_, ?_⟩
  · exact ((But.refl g w.heap.size w).set 0 _).trans (But.of (((Below.refl _ _).alloc (by rw [hs]; exact Nat.le_refl _) _).alloc (by rw [World.size_alloc, hs]; omega) _))
  · unfold mayW; rw [World.size_alloc, World.size_alloc, hs]
set_option maxHeartbeats 4000000 in
theorem nodesMay_all {ok : Nat → Prop} {g : Nat} (hok : ∀ b, ok b → b ≠ g) (N : Nat) : MayAt ok g N := by
  induction N with
  | zero => intro r h; have := r.size_pos; omega
  | succ N ih =>
    rintro ⟨k, s, ks⟩ hN n v w hn hL hR
    obtain ⟨hk, hs, al, cap, rfl, hcap, hmax, hrow⟩ := hR
    have hN' : Rx.sizes ks ≤ N := by simp [Rx.size] at hN; omega
    rw [mayN_node]
    have hg := hL.lt
    obtain ⟨c, f⟩ := hL.cells
    have HL := Lib.hid hL
    have KB := Lib.hid fun W => nodeMay_any k s ks.length al cap W hk hmax
    have KC := Lib.hid fun (m gb : Nat) (W : World) (hm : m ≤ 2000) (hgb : gb ≠ g) (hL : Left W g m) (hP : PtrAt W gb g) (hb : But g w.heap.size w W) => contains_of hok ih ks hN' m gb al cap W hm hmax hgb hL hP (hrow.go (hb.kept hok))
    generalize nodeGood k ks.length (bareB s) = q at *
    obtain ⟨sa, sb, sc, sd⟩ := s
    have HSZ := Lib.hid (show (Rx.node k ⟨sa, sb, sc, sd⟩ ks).size = 1 + Rx.sizes ks from by simp [Rx.size])
    clear ih hrow hN hL
    simp only at KB
    go_enter Tryz.func40, Tryz.ntmps40
    by_cases hn0 : n = 0
    · subst hn0
      obtain ⟨m1, m2, m3, m4, m5⟩ := mayW_facts HL.out (-1) (.cells #[.int .u8 k, .int .u64 sa, .int .u64 sb, .int .u64 sc, .int .u64 sd, .slice al ks.length cap] 39)
      unfold mayW at m1 m4
      have M1 := Lib.hid m1
      have M4 := Lib.hid m4
      clear m1 m2 m3 m4 m5
      go_wp2
      go_ret
      exact ⟨by simp, ⟨-1, M1.out, fun h => by simp at h⟩, M4.out⟩
    · have d1 : decide ((n : Int) - 1 < 0) = false := by simp; omega
      have d2 : decide (0 < n) = true := by simp; omega
      have D2 := Lib.hid d2
      obtain ⟨m1, m2, m3, m4, m5⟩ := mayW_facts HL.out ((n : Int) - 1) (.cells #[.int .u8 k, .int .u64 sa, .int .u64 sb, .int .u64 sc, .int .u64 sd, .slice al ks.length cap] 39)
      have M1 := Lib.hid m1
      have M2 := Lib.hid m2
      have M3 := Lib.hid m3
      have M4 := Lib.hid m4
      have M5 := Lib.hid m5
      clear m1 m2 m3 m4 m5 d2
      go_wp2_with fail
      refine (KB.out _).mono ?_
      rintro e w1 ⟨rfl, hb1⟩
      change Below (mayW w g ((n : Int) - 1) (.cells #[.int .u8 k, .int .u64 sa, .int .u64 sb, .int .u64 sc, .int .u64 sd, .slice al ks.length cap] 39)).heap.size (mayW w g ((n : Int) - 1) (.cells #[.int .u8 k, .int .u64 sa, .int .u64 sb, .int .u64 sc, .int .u64 sd, .slice al ks.length cap] 39)) w1 at hb1
      generalize mayW w g ((n : Int) - 1) (.cells #[.int .u8 k, .int .u64 sa, .int .u64 sb, .int .u64 sc, .int .u64 sd, .slice al ks.length cap] 39) = W at *
      have hz := M5.out
      have n1 : Left w1 g ((n : Int) - 1) := (hb1.block _ (by omega)).trans M1.out
      have n2 : PtrAt w1 (w.heap.size + 1) g := (hb1.block _ (by omega)).trans M2.out
      have n3 := (hb1.block w.heap.size (by omega)).trans M3.out
      have n4 : But g w.heap.size w w1 := M4.out.trans (But.of (hb1.mono (by omega)))
      obtain ⟨g0, g1, g2, g3, g4, g5, p0, p1, p2, p3, p4, p5⟩ := cellsR n3
      have N1 := Lib.hid n1
      have N2 := Lib.hid n2
      have N4 := Lib.hid n4
      clear n1 n2 n3 n4 hb1 hz
      cases q with
      | false =>
        go_wp2
        go_ret
        exact ⟨by simp, ⟨(n : Int) - 1, N1.out, fun h => by simp at h⟩, N4.out⟩
      | true =>
        have e1 : ((n - 1 : Nat) : Int) = (n : Int) - 1 := by omega
        have K := Lib.hid (KC.out (n - 1) (w.heap.size + 1) w1 (by omega) (by omega) (by rw [e1]; exact N1.out) N2.out N4.out)
        clear e1
        generalize mayNs ks (n - 1) = q at *
        go_wp2_with fail
        refine K.out.mono ?_
        rintro e w2 ⟨rfl, ⟨z, hz, hzz⟩, hb2⟩
        have HZ := Lib.hid hz
        have HZZ := Lib.hid hzz
        have hb3 : But g w.heap.size w w2 := N4.out.trans (hb2.mono N4.out.size)
        clear hz hzz hb2
        go_wp2
        go_ret
        refine ⟨by rw [D2.out]; simp, ⟨z, HZ.out, fun h => ?_⟩, hb3⟩
        rw [D2.out] at h
        have := HZZ.out (by simpa using h)
        rw [this, HSZ.out]; omega
open Go.RowKit
set_option maxHeartbeats 1000000 in
theorem mayClosure_any {ok : Nat → Prop} (r : Rx) (v : Value) (w : World) (h : ReAt ok w v r) :
    Calls Tryz.prog 39 #[v] w fun e w' => e = .returned (.bool (!mayR r)) ∧ Below w.heap.size w w' := by
  have h' : ReAt (fun b => b < w.heap.size) w v r := h.imp fun b hb _ => hb
  have K := Lib.hid fun W (hb : Below w.heap.size w W) (hL : Left W (w.heap.size + 1) (2000 : Nat)) => nodesMay_all (ok := fun b => b < w.heap.size) (g := w.heap.size + 1) (fun b hb => by omega) r.size r (Nat.le_refl _) 2000 v W (Nat.le_refl _) hL (h'.below hb)
  obtain ⟨x0, x1, x2, x3, x4, bl, n', cp, rfl⟩ := cells_re h
  clear h h'
  have hm : mayR r = mayN r 2000 := rfl
  rw [hm]
  generalize mayN r 2000 = q at *
  go_enter Tryz.func39, Tryz.ntmps39
  go_wp2_with fail
  refine (K.out _ (((Below.refl _ w).alloc (Nat.le_refl _) _).alloc (by simp) _) (blk_at _ _ (by simp))).mono ?_
  rintro e w1 ⟨rfl, -, hb⟩
  have hbw : Below w.heap.size w w1 := (((Below.refl _ w).alloc (Nat.le_refl _) _).alloc (by simp) _).trans ((hb.mono (by simp; omega)).below (by omega))
  clear hb
  go_wp2
  go_ret
  exact ⟨rfl, hbw⟩
def idxInv2 (l : List Rx) (w : World) (y : Value) (wr : World) : Prop := ∃ i : Nat, i ≤ l.length ∧ y = .int .i64 i ∧ (l.take i).all mayR = true ∧ Below w.heap.size w wr
def IdxPost2 (q : Bool) (w : World) (e : Ending) (w' : World) : Prop := ∃ x : Int, decide (0 ≤ x) = !q ∧ e = .returned (.int .i64 x) ∧ Below w.heap.size w w'
set_option maxHeartbeats 4000000 in
theorem index_any {ok : Nat → Prop} (l : List Rx) (al : Option Addr) (cap : Nat) (w : World) (hl : l.length < 2199023255552) (hR : RowAt ok w al l) :
    Calls Tryz.prog 54 #[.slice al l.length cap, .func (.func 39) #[] #[]] w (IdxPost2 (l.all mayR) w) := by
  have HR := Lib.hid hR
  clear hR
  go_enter Tryz.func54, Tryz.ntmps54
  go_wp2
  go_loopw [8] (fun y wr => idxInv2 l w y wr) (fun y _ => l.length - (intOf y).toNat)
  case atStart => exact ⟨0, Nat.zero_le _, rfl, by simp, Below.refl _ _⟩
  case round =>
    obtain ⟨i, hi, rfl, hmay, hb⟩ := hrel
    have HY := Lib.hid hmay
    clear hmay
    by_cases hlt : i < l.length
    · obtain ⟨b, off, hab, hblt, hnode⟩ := HR.out.kid hlt
      subst hab
      have hkid := NodeAt.below hb _ hblt hnode
      have htk : (l.take (i + 1)).all mayR = ((l.take i).all mayR && mayR l[i]) := by
        rw [List.take_succ_eq_append_getElem hlt, List.all_append]; simp
      have hno : mayR l[i] = false → l.all mayR = false := fun h => by
        rw [List.all_eq_false]; exact ⟨l[i], List.getElem_mem hlt, by rw [h]; simp⟩
      clear hnode
      generalize l[i] = kid at *
      obtain ⟨k', ⟨ta, tb, tc, td⟩, ks'⟩ := kid
      obtain ⟨al', cap', ⟨c0, c1, c2, c3, c4, c5⟩, hre⟩ := hkid.read
      simp only at c0 c1 c2 c3 c4 c5
      have K := Lib.hid (mayClosure_any _ _ wr hre)
      generalize mayR (Rx.node k' ⟨ta, tb, tc, td⟩ ks') = q at *
      have T1 := Lib.hid htk
      have T2 := Lib.hid hno
      clear hkid hre htk hno
      have q1 : (i : Int) < (l.length : Int) := by omega
      go_wp2_with fail
      refine K.out.mono ?_
      rintro e w1 ⟨rfl, hb1⟩
      replace hb := hb.trans (hb1.mono hb.size)
      clear hb1 c0 c1 c2 c3 c4 c5
      cases q with
      | true =>
        go_wp2
        exact ⟨⟨i + 1, by omega, by go_num, by rw [T1.out, HY.out]; rfl, hb⟩, by simp [intOf]; omega⟩
      | false =>
        go_wp2
        go_ret
        exact ⟨i, by rw [T2.out trivial]; simp, rfl, hb⟩
    · have he : l.take i = l := List.take_of_length_le (by omega)
      rw [he] at HY
      go_wp2
      go_ret
      exact ⟨-1, by rw [HY.out]; rfl, rfl, hb⟩
theorem contains_any {ok : Nat → Prop} (l : List Rx) (al : Option Addr) (cap : Nat) (w : World) (hl : l.length < 2199023255552) (hR : RowAt ok w al l) :
    Calls Tryz.prog 38 #[.slice al l.length cap, .func (.func 39) #[] #[]] w fun e w' => e = .returned (.bool (!l.all mayR)) ∧ Below w.heap.size w w' := by
  have K := Lib.hid (index_any l al cap w hl hR)
  clear hR
  generalize l.all mayR = q at *
  go_enter Tryz.func38, Tryz.ntmps38
  go_wp2_with fail
  refine K.out.mono ?_
  rintro e w1 ⟨x, hx, rfl, hb⟩
  have HX := Lib.hid hx
  clear hx
  go_wp2
  go_ret
  exact ⟨by rw [← HX.out]; rfl, hb⟩
theorem mayX {ok : Nat → Prop} (l : List Rx) (al : Option Addr) (cap : Nat) (w : World) (hl : l.length < 2199023255552) (hR : RowAt ok w al l) :
    Calls Tryz.prog 25 #[.slice al l.length cap] w fun e w' => e = .returned (.bool (l.all mayR)) ∧ Below w.heap.size w w' := by
  have K := Lib.hid (contains_any l al cap w hl hR)
  clear hR
  generalize l.all mayR = q at *
  go_enter Tryz.func25, Tryz.ntmps25
  go_wp2_with fail
  refine K.out.mono ?_
  rintro e w1 ⟨rfl, hb⟩
  go_wp2
  go_ret
  exact ⟨by simp, hb⟩
theorem row_new {w : World} {ok : Nat → Prop} {x0 x1 x2 x3 x4 x5 : Value} {r : Rx} (h : ReAt ok w (.agg #[x0, x1, x2, x3, x4, x5]) r) : RowAt (fun _ => True) (w.alloc (.cells #[x0, x1, x2, x3, x4, x5] 39)) (some ⟨w.heap.size, 0, none⟩) [r] :=
  row_one (blk_new w _) trivial ((h.below ((Below.refl _ w).alloc (Nat.le_refl _) _)).imp fun _ _ _ => trivial)
open Go.RowKit
theorem nodes_tail {ok : Nat → Prop} {w : World} {b off : Nat} {r : Rx} {rs : List Rx} (h : NodesAt ok w b off (r :: rs)) : NodesAt ok w b (off + 6) rs := by
  unfold NodesAt at h; exact h.2
theorem fold_kept {w W w' : World} {ok : Nat → Prop} (hbW : Below w.heap.size w W) (hsW : W.heap.size = w.heap.size + 1) (hb2 : Below W.drew.heap.size W.drew w') : Kept ok (fun b => (ok b ∧ b < w.heap.size) ∨ W.drew.heap.size ≤ b) w w' := by
  have hb : Below w.heap.size w w' := hbW.drew.trans (hb2.mono (by show w.heap.size ≤ W.heap.size; omega))
  exact ⟨hb.size, fun b h1 h2 => ⟨.inl ⟨h2, h1⟩, hb.block b h1⟩⟩
theorem fold_le {w W : World} (hsW : W.heap.size = w.heap.size + 1) : w.heap.size ≤ W.drew.heap.size := by show w.heap.size ≤ W.heap.size; omega
theorem fold_nil {w W w' w'' : World} (hsW : W.heap.size = w.heap.size + 1) (hn : W.heap[w.heap.size]? = some nilBlk) (hb2 : Below W.drew.heap.size W.drew w') (hb3 : Below w'.heap.size w' w'') : w''.heap[w.heap.size]? = some nilBlk := by
  have h1 : w'.heap[w.heap.size]? = some nilBlk := (hb2.block _ (by show w.heap.size < W.heap.size; omega)).trans hn
  exact (hb3.block _ (Array.getElem?_eq_some_iff.1 h1).1).trans h1
abbrev FoldC (x : World) (b off : Nat) (x0 x1 x2 x3 x4 x5 : Value) : Prop := x.cell? ⟨b, off, none⟩ = some x0 ∧ x.cell? ⟨b, off + 1, none⟩ = some x1 ∧ x.cell? ⟨b, off + 2, none⟩ = some x2 ∧ x.cell? ⟨b, off + 3, none⟩ = some x3 ∧ x.cell? ⟨b, off + 4, none⟩ = some x4 ∧ x.cell? ⟨b, off + 5, none⟩ = some x5
theorem foldC_go {W x : World} {b off B : Nat} {x0 x1 x2 x3 x4 x5 : Value} (h : FoldC W b off x0 x1 x2 x3 x4 x5) (hb : b < B) (hx : Below B W x) : FoldC x b off x0 x1 x2 x3 x4 x5 := by
  obtain ⟨d0, d1, d2, d3, d4, d5⟩ := h
  have e := fun o => hx.cell (p := ⟨b, o, none⟩) hb
  exact ⟨by rw [e]; exact d0, by rw [e]; exact d1, by rw [e]; exact d2, by rw [e]; exact d3, by rw [e]; exact d4, by rw [e]; exact d5⟩
theorem fold_end {w W w' w'' : World} {ok : Nat → Prop} {r : Rx} {y0 y1 y2 y3 y4 y5 : Value} (hbW : Below w.heap.size w W) (hsW : W.heap.size = w.heap.size + 1) (hn : W.heap[w.heap.size]? = some nilBlk) (hb2 : Below W.drew.heap.size W.drew w') (hb3 : Below w'.heap.size w' w'')
    (hu : ReAt (fun b => ((ok b ∧ b < w.heap.size) ∨ W.drew.heap.size ≤ b) ∨ w'.heap.size ≤ b) w'' (.agg #[y0, y1, y2, y3, y4, y5]) r) :
    (putW w'' w.heap.size y0 y1 y2 y3 y4 y5).heap[w.heap.size]? = some (.cells #[y0, y1, y2, y3, y4, y5] 39) ∧
    ReAt (fun b => ok b ∨ w.heap.size ≤ b) (putW w'' w.heap.size y0 y1 y2 y3 y4 y5) (.agg #[y0, y1, y2, y3, y4, y5]) r ∧ Below w.heap.size w (putW w'' w.heap.size y0 y1 y2 y3 y4 y5) := by
  have h1 : W.heap.size ≤ w'.heap.size := hb2.size
  have h2 := hb3.size
  have hd : W.drew.heap.size = W.heap.size := rfl
  refine ⟨putR (fold_nil hsW hn hb2 hb3) _ _ _ _ _ _, hu.go ⟨by rw [putW_size]; exact Nat.le_refl _, fun b _ h => ?_⟩, putB (hbW.drew.trans ((hb2.mono (fold_le hsW)).trans (hb3.mono (by omega)))) (Nat.le_refl _) _ _ _ _ _ _⟩
  rw [hd] at h
  rcases h with (⟨h, hl⟩ | h) | h
  · exact ⟨.inl h, putW_other _ _ _ _ _ _ _ _ (by omega)⟩
  · exact ⟨.inr (by omega), putW_other _ _ _ _ _ _ _ _ (by omega)⟩
  · exact ⟨.inr (by omega), putW_other _ _ _ _ _ _ _ _ (by omega)⟩
set_option maxHeartbeats 4000000 in
theorem refFold_any (k o : Nat) (hko : (k = 4 ∧ o = 2) ∨ (k = 5 ∧ o = 1)) : ∀ (l : List Rx) (ok : Nat → Prop) (al : Option Addr) (cap : Nat) (w : World), l.length < 2199023255552 → l.length ≤ cap → RowAt ok w al l →
    Calls Tryz.prog 68 #[.int .u8 k, .slice al l.length cap] w (RePost ok (foldR k o l) w) := by
  intro l
  induction l with
  | nil =>
    intro ok al cap w _ _ _
    have KB := Lib.hid fun W => bare_any o W (by omega)
    have h1 : foldR k o [] = .node o Ws.nil [] := rfl
    rw [h1]
    rcases hko with ⟨rfl, rfl⟩ | ⟨rfl, rfl⟩
    all_goals
      go_enter Tryz.func68, Tryz.ntmps68
      go_wp2_with fail
      refine (KB.out _).mono ?_
      rintro e w1 ⟨v, rfl, hv, hb1⟩
      obtain ⟨x0, x1, x2, x3, x4, bl, n', cp, rfl⟩ := cells_re hv
      obtain ⟨hn, h1, h2, h3⟩ := pass_re hv hb1
      obtain ⟨g0, g1, g2, g3, g4, g5, p0, p1, p2, p3, p4, p5⟩ := cellsR hn
      unfold putW at h1 h2 h3
      have H1 := Lib.hid h1
      have H2 := Lib.hid h2
      have H3 := Lib.hid h3
      clear hv hb1 hn h1 h2 h3
      go_wp2
      exact ret_re H1.out Tryz.results68 rfl rfl ⟨_, rfl, leaf_any _ H2.out, H3.out⟩
  | cons r rs ih =>
    intro ok al cap w hlen hcap hR
    obtain ⟨b, off, hab, hblt, hbok, hnode⟩ : ∃ b off, al = some ⟨b, off, none⟩ ∧ b < w.heap.size ∧ ok b ∧ NodesAt ok w b off (r :: rs) := by
      rcases hR with h | h
      · cases h
      · exact h
    subst hab
    have hk256 : k < 256 := by omega
    have hk0 : NodeAt ok w b off r := by unfold NodesAt at hnode; exact hnode.1
    have hrs0 := nodes_tail hnode
    obtain ⟨k', ⟨ta, tb, tc, td⟩, ks'⟩ := r
    obtain ⟨al', cap', ⟨c0, c1, c2, c3, c4, c5⟩, hre⟩ := hk0.read
    simp only at c0 c1 c2 c3 c4 c5
    have HRE := Lib.hid hre
    clear hre hk0 hnode hR
    by_cases hrs : rs = []
    · subst hrs
      rw [show foldR k o [Rx.node k' ⟨ta, tb, tc, td⟩ ks'] = Rx.node k' ⟨ta, tb, tc, td⟩ ks' from rfl, show [Rx.node k' ⟨ta, tb, tc, td⟩ ks'].length = 1 from rfl]
      clear hrs0 ih
      go_enter Tryz.func68, Tryz.ntmps68
      go_wp2
      refine ret_re (blk_new w _) Tryz.results68 rfl rfl ⟨_, rfl, ?_, (Below.refl _ w).alloc (Nat.le_refl _) _⟩
      exact (HRE.out.below ((Below.refl _ w).alloc (Nat.le_refl _) _)).imp fun _ _ h => .inl h
    · have hpos : 0 < rs.length := List.length_pos_iff.2 hrs
      rw [foldR_cons k o _ hrs]
      have hrow : RowAt ok w (some ⟨b, off + 6, none⟩) rs := .inr ⟨b, off + 6, rfl, hblt, hbok, hrs0⟩
      obtain ⟨n, hn⟩ : ∃ n, n = (Rx.node k' ⟨ta, tb, tc, td⟩ ks' :: rs).length := ⟨_, rfl⟩
      rw [← hn] at hlen hcap ⊢
      simp at hn
      have hrl : rs.length = n - 1 := by omega
      have hc1 : rs.length ≤ cap - 1 := by omega
      have KF := Lib.hid fun W (h : Below w.heap.size w W) => ih (fun b => ok b ∧ b < w.heap.size) (some ⟨b, off + 6, none⟩) (cap - 1) W (by omega) hc1 ((hrow.imp fun b hb h => ⟨h, hb⟩ : RowAt (fun b => ok b ∧ b < w.heap.size) w _ rs).below h)
      have KT := Lib.hid fun (W : World) (ok' : Nat → Prop) (u : Value) (h : ReAt ok' W _ (Rx.node k' ⟨ta, tb, tc, td⟩ ks')) (h' : ReAt ok' W u (foldR k o rs)) => two_any k _ _ (.agg #[.int .u8 k', .int .u64 ta, .int .u64 tb, .int .u64 tc, .int .u64 td, .slice al' ks'.length cap']) u W hk256 h h'
      rw [hrl] at KF
      have q0 : ((n : Int) == 0) = false := by simp; omega
      have q1 : ((n : Int) == 1) = false := by simp; omega
      have q2 : (0 : Int) < (n : Int) := by omega
      have q3 : (1 : Int) ≤ (n : Int) := by omega
      have q4 : 1 ≤ n := by omega
      have q5 : 0 < n := by omega
      have q7 : ¬ cap = 1 := by omega
      generalize foldR k o rs = F at *
      clear ih hrow hrs0 hn hrl hc1 hrs hko
      have hnb := blk_new w nilBlk
      have hbW := (Below.refl _ w).alloc (Nat.le_refl _) nilBlk
      have hsW : (w.alloc nilBlk).heap.size = w.heap.size + 1 := by simp
      go_enter Tryz.func68, Tryz.ntmps68
      go_wp2_with fail
      change Code.wp _ _ _ _ (w.alloc nilBlk)
      generalize w.alloc nilBlk = W at *
      have c0' := hbW.cell (p := ⟨b, off, none⟩) hblt
      have c1' := hbW.cell (p := ⟨b, off + 1, none⟩) hblt
      have c2' := hbW.cell (p := ⟨b, off + 2, none⟩) hblt
      have c3' := hbW.cell (p := ⟨b, off + 3, none⟩) hblt
      have c4' := hbW.cell (p := ⟨b, off + 4, none⟩) hblt
      have c5' := hbW.cell (p := ⟨b, off + 5, none⟩) hblt
      rw [c0] at c0'
      rw [c1] at c1'
      rw [c2] at c2'
      rw [c3] at c3'
      rw [c4] at c4'
      rw [c5] at c5'
      clear c0 c1 c2 c3 c4 c5
      have HNB := Lib.hid hnb
      clear hnb
      have HC := Lib.hid (⟨c0', c1', c2', c3', c4', c5'⟩ : FoldC W b off (.int .u8 k') (.int .u64 ta) (.int .u64 tb) (.int .u64 tc) (.int .u64 td) (.slice al' ks'.length cap'))
      go_region_with (first
        | (go_at_call 68; (with_reducible refine (KF.out _ hbW.drew).mono ?_); (rintro e w' ⟨u, rfl, hu, hb2⟩); (obtain ⟨z0, z1, z2, z3, z4, zl, zn, zc, rfl⟩ := cells_re hu); (obtain ⟨d0, d1, d2, d3, d4, d5⟩ := foldC_go HC.out hblt ((Below.refl _ _).drew.trans (hb2.mono (fold_le hsW)))))
        | (go_at_call 64; (with_reducible refine (KT.out _ (fun b => (ok b ∧ b < w.heap.size) ∨ W.drew.heap.size ≤ b) _ ?_ ?_).mono ?_); (exact HRE.out.go (fold_kept hbW hsW hb2)); (exact hu); (rintro e w'' ⟨u, rfl, hu2, hb3⟩); (obtain ⟨y0, y1, y2, y3, y4, yl, yn, yc, rfl⟩ := cells_re hu2); (obtain ⟨g0, g1, g2, g3, g4, g5, p0, p1, p2, p3, p4, p5⟩ := cellsR (fold_nil hsW HNB.out hb2 hb3))))
      all_goals
        obtain ⟨s1, s2, s3⟩ := fold_end hbW hsW HNB.out hb2 hb3 hu2
        unfold putW at s1 s2 s3
        have S1 := Lib.hid s1
        have S2 := Lib.hid s2
        have S3 := Lib.hid s3
        clear s1 s2 s3 hu hu2 hb2 hb3 d0 d1 d2 d3 d4 d5 g0 g1 g2 g3 g4 g5 p0 p1 p2 p3 p4 p5 c0' c1' c2' c3' c4' c5'
        go_wp2
        exact ret_re S1.out Tryz.results68 rfl rfl ⟨_, rfl, S2.out, S3.out⟩
open Go.RowKit
mutual
def allR : Rx → List Rx
  | .node k s ks => .node k s ks :: allRs ks
def allRs : List Rx → List Rx
  | [] => []
  | r :: rs => allR r ++ allRs rs
end
theorem allRs_append (a b : List Rx) : allRs (a ++ b) = allRs a ++ allRs b := by
  induction a with
  | nil => simp [allRs]
  | cons x t ih => simp [allRs, ih, List.append_assoc]
mutual
theorem allR_length : ∀ (r : Rx), (allR r).length = r.size
  | .node k s ks => by
    have := allRs_length ks
    simp [allR, Rx.size, this]; omega
theorem allRs_length : ∀ (l : List Rx), (allRs l).length = Rx.sizes l
  | [] => by simp [allRs, Rx.sizes]
  | r :: rs => by
    have h1 := allR_length r
    have h2 := allRs_length rs
    simp [allRs, Rx.sizes, h1, h2]
end
mutual
theorem allR_good : ∀ (r : Rx), (allR r).all goodN = goodR r
  | .node k s ks => by
    have := allRs_good ks
    simp [allR, goodR, goodN, this]
theorem allRs_good : ∀ (l : List Rx), (allRs l).all goodN = goodRs l
  | [] => by simp [allRs, goodRs]
  | r :: rs => by
    have h1 := allR_good r
    have h2 := allRs_good rs
    simp [allRs, goodRs, List.all_append, h1, h2]
end
def AllPost (B : Nat) (l : List Rx) (w : World) (e : Ending) (w' : World) : Prop := ∃ g off cap, e = .returned (.slice (some ⟨g, off, none⟩) l.length cap) ∧ w.heap.size ≤ g ∧ g < w'.heap.size ∧ l.length ≤ cap ∧ NodesAt (Lo B) w' g off l ∧ Below w.heap.size w w'
def allInv (B : Nat) (r : Rx) (ks : List Rx) (sl : Value) (w : World) (v y : Value) (wr : World) : Prop := ∃ (i m : Nat) (xs : List Value), i ≤ ks.length ∧ y = .int .i64 i ∧ m = 1 + Rx.sizes (ks.take i) ∧ wr.cell? ⟨w.heap.size, 5, none⟩ = some sl ∧ Below w.heap.size w wr ∧ w.heap.size + 1 < wr.heap.size ∧ wr.ownsRow (w.heap.size + 1) 39 6 v m xs ∧ RowVals (Lo B) wr xs (r :: allRs (ks.take i))
set_option maxHeartbeats 4000000 in
theorem all_any (B : Nat) (N : Nat) : ∀ (r : Rx), r.size ≤ N → ∀ (v : Value) (w : World), r.size ≤ 8000000 → B ≤ w.heap.size → ReAt (Lo B) w v r →
    Calls Tryz.prog 35 #[v] w (AllPost B (allR r) w) := by
  obtain ⟨i0, hi, hz0, hz1, hz2⟩ := info_parts infoR
  have hz2' := Lib.hid hz2
  clear hz2
  induction N with
  | zero => intro r h; have := r.size_pos; omega
  | succ N ih =>
    rintro ⟨k, s, ks⟩ hN v w hbig hB hR
    have HRE := Lib.hid hR
    obtain ⟨hk, hs, al, cap, rfl, hcap, hmax, hrow⟩ := hR
    have hN' : Rx.sizes ks ≤ N := by simp [Rx.size] at hN; omega
    have hbig' : 1 + Rx.sizes ks ≤ 8000000 := by simp [Rx.size] at hbig; omega
    have IH := Lib.hid ih
    have HR := Lib.hid hrow
    have HALL := Lib.hid (show allR (.node k s ks) = .node k s ks :: allRs ks from by simp [allR])
    obtain ⟨sa, sb, sc, sd⟩ := s
    clear ih hrow hN hbig
    go_enter Tryz.func35, Tryz.ntmps35
    go_wp2
    go_loopw [3, 10] (fun v y wr => allInv B (.node k ⟨sa, sb, sc, sd⟩ ks) ks (.slice al ks.length cap) w v y wr) (fun _ y _ => ks.length - (intOf y).toNat)
    case atStart =>
      have hbw : Below w.heap.size w ((w.alloc (.cells #[.int .u8 k, .int .u64 sa, .int .u64 sb, .int .u64 sc, .int .u64 sd, .slice al ks.length cap] 39)).alloc (.cells #[.int .u8 k, .int .u64 sa, .int .u64 sb, .int .u64 sc, .int .u64 sd, .slice al ks.length cap] 39)) := ((Below.refl _ w).alloc (Nat.le_refl _) _).alloc (by simp) _
      refine ⟨0, 1, [.int .u8 k, .int .u64 sa, .int .u64 sb, .int .u64 sc, .int .u64 sd, .slice al ks.length cap], Nat.zero_le _, rfl, by simp [Rx.sizes], ?_, hbw, by simp, ⟨rfl, .inr ⟨w.heap.size + 1, 1, #[.int .u8 k, .int .u64 sa, .int .u64 sb, .int .u64 sc, .int .u64 sd, .slice al ks.length cap], rfl, Nat.le_refl _, blk_at _ _ (by simp), Nat.le_refl _, by simp [maxLen], rfl, rfl⟩⟩, ?_⟩
      · rw [Lib.cell_of_heap ((Below.heap_alloc _ _ _ (by simp)).trans (blk_new w _))]; rfl
      · simp only [List.take_zero, allRs]
        exact RowVals.one (HRE.out.go (kept_lo hB (hbw.mono hB)))
    case round =>
      obtain ⟨i, m, xs, hii, rfl, hm, hc5, hb, hgs, hown, hvals⟩ := hrel
      have HO := Lib.hid hown
      have HV := Lib.hid hvals
      have HM := Lib.hid hm
      have hsz := hb.size
      clear hown hvals hm
      by_cases hlt : i < ks.length
      · obtain ⟨b, off, hab, hblt, hnode⟩ := HR.out.kid hlt
        subst hab
        have hkid := NodeAt.below hb _ hblt hnode
        have hkz := size_kid hlt
        have hst := sizes_take ks i hlt
        have hle := sizes_take_le ks (i + 1)
        have htk : allRs (ks.take (i + 1)) = allRs (ks.take i) ++ allR ks[i] := by
          rw [List.take_succ_eq_append_getElem hlt, allRs_append]; simp [allRs]
        have hal := allR_length ks[i]
        clear hnode
        generalize ks[i] = kid at *
        obtain ⟨k', ⟨ta, tb, tc, td⟩, ks'⟩ := kid
        obtain ⟨al', cap', ⟨c0, c1, c2, c3, c4, c5⟩, hre⟩ := hkid.read
        simp only at c0 c1 c2 c3 c4 c5
        have KC := Lib.hid (IH.out _ (Nat.le_trans hkz hN') _ wr (by omega) (Nat.le_trans hB hsz) hre)
        have HTK := Lib.hid htk
        have HAL := Lib.hid hal
        have HST := Lib.hid hst
        have HLE := Lib.hid hle
        clear hkid hre htk hal hst hle hkz
        generalize allR (Rx.node k' ⟨ta, tb, tc, td⟩ ks') = L at *
        generalize (Rx.node k' ⟨ta, tb, tc, td⟩ ks').size = z at *
        go_wp2_with fail
        refine KC.out.mono ?_
        rintro e w1 ⟨g, off1, cap1, rfl, hg1, hg2, hcap1, hn1, hb1⟩
        obtain ⟨ys, hys, hyc, hyo⟩ := nodes_vals _ _ hn1
        have hbw : Below w.heap.size w w1 := hb.trans (hb1.mono hsz)
        have HO1 := Lib.hid (ownR_below HO.out hb1)
        have HV1 := Lib.hid (HV.out.go (kept_lo (Nat.le_trans hB hsz) (hb1.mono (Nat.le_trans hB hsz))))
        have HYS := Lib.hid hys
        have HYC := Lib.hid hyc
        have HYO := Lib.hid hyo
        have hc51 : w1.cell? ⟨w.heap.size, 5, none⟩ = some (.slice (some ⟨b, off, none⟩) ks.length cap) := by
          rw [hb1.cell (p := ⟨w.heap.size, 5, none⟩) (show w.heap.size < wr.heap.size from by omega)]; exact hc5
        have hsz1 : w.heap.size + 1 < w1.heap.size := Nat.lt_of_lt_of_le hgs hb1.size
        have hnum : m + L.length ≤ 8000000 := by
          have := HM.out; have := HAL.out; have := HST.out; have := HLE.out; omega
        clear c0 c1 c2 c3 c4 c5 hn1 hys hyc hyo hb1 hc5
        go_wp2_with (at_builtin; refine wpList_append_own _ rfl _ _ 27 rfl (w.heap.size + 1) 39 i0 _ 6 64 Tryz.underlying27 hi hz0 hz1 hz2'.out rfl (by decide) _ _ _ rfl HO1.out ⟨g, off1, none⟩ L.length cap1 ys rfl HYS.out.1 ?c1 HYO.out ?c3 ?c4 ?c5 ?_)
        case c1 => intro j u hj; rw [Go.WideShapes.add_plain]; exact HYC.out j u hj
        case c3 => unfold maxLen; omega
        case c4 => omega
        case c5 => omega
        intro v' w2 hown' hgrow _
        have hge := ownR_ge HO1.out
        have hb2 : Below w.heap.size w w2 := hbw.grown hgrow (by omega) (fun g hg => by have := hge g hg; omega)
        have hb2' : Below B w1 w2 := (Below.refl B w1).grown hgrow (by omega) (fun g hg => by have := hge g hg; omega)
        have hc52 : w2.cell? ⟨w.heap.size, 5, none⟩ = some (.slice (some ⟨b, off, none⟩) ks.length cap) := by
          rw [World.cell?_of_block (w := w1) (a := ⟨w.heap.size, 5, none⟩) (hgrow.block _ (by show w.heap.size < _; omega) (fun e => by have := hge _ e.symm; simp at this; omega))]; exact hc51
        have hsz2 : w.heap.size + 1 < w2.heap.size := Nat.lt_of_lt_of_le hsz1 hgrow.size
        have hvals : RowVals (Lo B) w2 (xs ++ ys) ((.node k ⟨sa, sb, sc, sd⟩ ks :: allRs (ks.take i)) ++ L) :=
          (HV1.out.go (kept_lo (by omega) hb2')).append (HYS.out.go (kept_lo (by omega) hb2'))
        have hm2 : m + L.length = 1 + Rx.sizes (ks.take (i + 1)) := by
          have := HM.out; have := HAL.out; have := HST.out; omega
        have HOW := Lib.hid hown'
        have HVL := Lib.hid hvals
        have HM2 := Lib.hid hm2
        clear hgrow hown' hvals hm2 hc51 hge hb2'
        go_wp2
        exact ⟨⟨i + 1, m + L.length, xs ++ ys, by omega, by go_num, HM2.out, hc52, hb2, hsz2, HOW.out, by rw [HTK.out]; exact HVL.out⟩, by simp [intOf]; omega⟩
      · have he : ks.take i = ks := List.take_of_length_le (by omega)
        rw [he] at HV HM
        rw [← HALL.out] at HV
        have hlen : m = (allR (.node k ⟨sa, sb, sc, sd⟩ ks)).length := by rw [HALL.out, List.length_cons, allRs_length, HM.out]; omega
        obtain ⟨g, cap2, hv, g1, g2, g3, g4⟩ := own_nodes (by rw [← hlen]; exact HO.out) HV.out (by rw [HALL.out]; simp)
        have G4 := Lib.hid g4
        subst hv
        generalize allR (.node k ⟨sa, sb, sc, sd⟩ ks) = L at *
        clear g4 he hlen
        go_wp2
        go_ret
        exact ⟨g, 0, cap2, rfl, by omega, g2, g3, G4.out, hb⟩
theorem allXb (B : Nat) (r : Rx) (v : Value) (w : World) (hbig : r.size ≤ 8000000) (hB : B ≤ w.heap.size) (h : ReAt (Lo B) w v r) :
    Calls Tryz.prog 35 #[v] w (AllPost B (allR r) w) := all_any B r.size r (Nat.le_refl _) v w hbig hB h
open Go.RowKit
def rmInv (L : List Rx) (w1 : World) (y : Value) (wr : World) : Prop := ∃ i : Nat, i ≤ L.length ∧ y = .int .i64 i ∧ (L.take i).all goodN = true ∧ Below w1.heap.size w1 wr
theorem all_no {L : List Rx} {i : Nat} (h : i < L.length) (hg : goodN L[i] = false) : L.all goodN = false := by
  rw [List.all_eq_false]; exact ⟨L[i], List.getElem_mem h, by rw [hg]; simp⟩
set_option maxHeartbeats 40000000 in
theorem refMay_big {ok : Nat → Prop} (r : Rx) (v : Value) (w : World) (hbig : r.size ≤ 8000000) (h : ReAt ok w v r) :
    Calls Tryz.prog 22 #[v] w fun e w' => e = .returned (.bool (mayR r)) ∧ Below w.heap.size w w' := by
  have h' : ReAt (Lo w.heap.size) w v r := h.imp fun b hb _ => hb
  have KA := Lib.hid fun W (hb : Below w.heap.size w W) => allXb w.heap.size r v W hbig hb.size (h'.go (kept_lo (Nat.le_refl _) hb))
  have hmay : mayR r = ((allR r).all goodN && decide ((allR r).length ≤ 2000)) := by
    rw [allR_good, allR_length]; rfl
  have HMAY := Lib.hid hmay
  have hlen : (allR r).length ≤ 8000000 := by rw [allR_length]; exact hbig
  obtain ⟨x0, x1, x2, x3, x4, bl, n', cp, rfl⟩ := cells_re h
  clear h h' hmay
  generalize mayR r = ans at *
  generalize allR r = L at *
  go_enter Tryz.func22, Tryz.ntmps22
  go_wp2_with fail
  refine (KA.out _ ((Below.refl _ w).alloc (Nat.le_refl _) _)).mono ?_
  rintro e w1 ⟨g, off, cap, rfl, hg1, hg2, hcap, hn, hb1⟩
  have hbw : Below w.heap.size w w1 := ((Below.refl _ w).alloc (Nat.le_refl _) _).trans (hb1.mono (by simp))
  have HN := Lib.hid hn
  have HBW := Lib.hid hbw
  clear hn hb1 hbw hg1
  go_wp2
  go_loopw [10] (fun y wr => rmInv L w1 y wr) (fun y _ => L.length - (intOf y).toNat)
  case atStart => exact ⟨0, Nat.zero_le _, rfl, by simp, Below.refl _ _⟩
  case round =>
    obtain ⟨i, hii, rfl, hall, hb⟩ := hrel
    have HA := Lib.hid hall
    have hfin := HBW.out.trans (hb.mono HBW.out.size)
    have HFIN := Lib.hid hfin
    clear hall hfin
    by_cases hlt : i < L.length
    · have hkid := NodeAt.below hb _ hg2 (nodesAt_get HN.out i hlt)
      have htk : (L.take (i + 1)).all goodN = ((L.take i).all goodN && goodN L[i]) := by
        rw [List.take_succ_eq_append_getElem hlt, List.all_append]; simp
      have hno := fun h => all_no hlt h
      generalize L[i] = kid at *
      obtain ⟨k, s, ks⟩ := kid
      obtain ⟨al', cap', ⟨c0, c1, c2, c3, c4, c5⟩, hre⟩ := hkid.read
      obtain ⟨hk, hs, -, -, -, -, hlk, -⟩ := hre
      have hgn : goodN (.node k s ks) = nodeGood k ks.length (bareB s) := rfl
      rw [hgn] at htk hno
      have T1 := Lib.hid htk
      have T2 := Lib.hid hno
      have hq : ∀ W : World, (Op.equalIn 10000 37 s.v (.agg #[.int .u64 0, .int .u64 0, .int .u64 0, .int .u64 0])).run Tryz.prog W = .ok (bareB s) W := fun W => by
        rw [← nil_v]
        by_cases hb : s = Ws.nil
        · subst hb; rw [eqW_yes, show bareB Ws.nil = true from sameW_iff.2 rfl]
        · rw [eqW_no hb]; congr 1
          have : ¬ sameW s Ws.nil = true := fun e => hb (sameW_iff.1 e)
          symm; simpa [bareB] using this
      generalize bareB s = q at *
      obtain ⟨sa, sb, sc, sd⟩ := s
      unfold Ws.v at hq
      simp only at c0 c1 c2 c3 c4 c5 hq
      clear hkid htk hno hgn
      have q1 : (i : Int) < (L.length : Int) := by omega
      by_cases k0 : k = 0
      · subst k0
        go_wp2
        go_ret
        exact ⟨by rw [HMAY.out, T2.out (by simp [nodeGood])]; simp, HFIN.out⟩
      by_cases k7 : 6 < k
      · have d1 : decide ((k : Int) < (1 : Int)) = false := by simp; omega
        have d2 : decide ((6 : Int) < (k : Int)) = true := by simp; omega
        have hng : nodeGood k ks.length q = false := by
          have n1 : ¬ k = 1 := by omega
          have n2 : ¬ k = 2 := by omega
          have n3 : ¬ k = 3 := by omega
          have n4 : ¬ k = 4 := by omega
          have n5 : ¬ k = 5 := by omega
          have n6 : ¬ k = 6 := by omega
          simp [nodeGood, n1, n2, n3, n4, n5, n6]
        have HNG := Lib.hid hng
        clear hng
        go_wp2
        go_ret
        exact ⟨by rw [HMAY.out, T2.out HNG.out]; simp, HFIN.out⟩
      have hk6 : k = 1 ∨ k = 2 ∨ k = 3 ∨ k = 4 ∨ k = 5 ∨ k = 6 := by omega
      clear k0 k7 hk
      have hgw : g < wr.heap.size := Nat.lt_of_lt_of_le hg2 hb.size
      rcases hk6 with rfl | rfl | rfl | rfl | rfl | rfl
      · rw [show ((1 : Nat) : Int) = 1 from rfl] at c0
        cases q
        · go_wp2
          go_ret
          exact ⟨by rw [HMAY.out, T2.out (by simp [nodeGood])]; simp, HFIN.out⟩
        · go_wp2
          go_region
          all_goals
            by_cases hm : ks.length = 0
            · have d1 : ((ks.length : Int) != 0) = false := by simp only [bne_eq_false_iff_eq]; omega
              have T3 := Lib.hid (show nodeGood 1 ks.length true = true from by simp [nodeGood, hm])
              clear hm
              go_wp2
              exact ⟨⟨i + 1, by omega, by go_num, by rw [T1.out, HA.out, T3.out]; rfl, hb.drew.alloc hb.size _⟩, by simp [intOf]; omega⟩
            · have d1 : ((ks.length : Int) != 0) = true := by simp only [bne_iff_ne, ne_eq]; omega
              have T3 := Lib.hid (show nodeGood 1 ks.length true = false from by simp [nodeGood, hm])
              clear hm
              go_wp2
              go_ret
              exact ⟨by rw [HMAY.out, T2.out T3.out]; simp, HFIN.out.drew.alloc HFIN.out.size _⟩
      · rw [show ((2 : Nat) : Int) = 2 from rfl] at c0
        cases q
        · go_wp2
          go_ret
          exact ⟨by rw [HMAY.out, T2.out (by simp [nodeGood])]; simp, HFIN.out⟩
        · go_wp2
          go_region
          all_goals
            by_cases hm : ks.length = 0
            · have d1 : ((ks.length : Int) != 0) = false := by simp only [bne_eq_false_iff_eq]; omega
              have T3 := Lib.hid (show nodeGood 2 ks.length true = true from by simp [nodeGood, hm])
              clear hm
              go_wp2
              exact ⟨⟨i + 1, by omega, by go_num, by rw [T1.out, HA.out, T3.out]; rfl, hb.drew.alloc hb.size _⟩, by simp [intOf]; omega⟩
            · have d1 : ((ks.length : Int) != 0) = true := by simp only [bne_iff_ne, ne_eq]; omega
              have T3 := Lib.hid (show nodeGood 2 ks.length true = false from by simp [nodeGood, hm])
              clear hm
              go_wp2
              go_ret
              exact ⟨by rw [HMAY.out, T2.out T3.out]; simp, HFIN.out.drew.alloc HFIN.out.size _⟩
      · rw [show ((3 : Nat) : Int) = 3 from rfl] at c0
        cases q
        · go_wp2
          go_region
          all_goals
            by_cases hm : ks.length = 0
            · have d1 : ((ks.length : Int) != 0) = false := by simp only [bne_eq_false_iff_eq]; omega
              have T3 := Lib.hid (show nodeGood 3 ks.length false = true from by simp [nodeGood, hm])
              clear hm
              go_wp2
              exact ⟨⟨i + 1, by omega, by go_num, by rw [T1.out, HA.out, T3.out]; rfl, hb.drew.alloc hb.size _⟩, by simp [intOf]; omega⟩
            · have d1 : ((ks.length : Int) != 0) = true := by simp only [bne_iff_ne, ne_eq]; omega
              have T3 := Lib.hid (show nodeGood 3 ks.length false = false from by simp [nodeGood, hm])
              clear hm
              go_wp2
              go_ret
              exact ⟨by rw [HMAY.out, T2.out T3.out]; simp, HFIN.out.drew.alloc HFIN.out.size _⟩
        · go_wp2
          go_ret
          exact ⟨by rw [HMAY.out, T2.out (by simp [nodeGood])]; simp, HFIN.out⟩
      · rw [show ((4 : Nat) : Int) = 4 from rfl] at c0
        cases q
        · go_wp2
          go_ret
          exact ⟨by rw [HMAY.out, T2.out (by simp [nodeGood])]; simp, HFIN.out⟩
        · go_wp2
          go_region
          all_goals
            by_cases hm : ks.length = 2
            · have d1 : ((ks.length : Int) != 2) = false := by simp only [bne_eq_false_iff_eq]; omega
              have T3 := Lib.hid (show nodeGood 4 ks.length true = true from by simp [nodeGood, hm])
              clear hm
              go_wp2
              exact ⟨⟨i + 1, by omega, by go_num, by rw [T1.out, HA.out, T3.out]; rfl, hb.drew.alloc hb.size _⟩, by simp [intOf]; omega⟩
            · have d1 : ((ks.length : Int) != 2) = true := by simp only [bne_iff_ne, ne_eq]; omega
              have T3 := Lib.hid (show nodeGood 4 ks.length true = false from by simp [nodeGood, hm])
              clear hm
              go_wp2
              go_ret
              exact ⟨by rw [HMAY.out, T2.out T3.out]; simp, HFIN.out.drew.alloc HFIN.out.size _⟩
      · rw [show ((5 : Nat) : Int) = 5 from rfl] at c0
        cases q
        · go_wp2
          go_ret
          exact ⟨by rw [HMAY.out, T2.out (by simp [nodeGood])]; simp, HFIN.out⟩
        · go_wp2
          go_region
          all_goals
            by_cases hm : ks.length = 2
            · have d1 : ((ks.length : Int) != 2) = false := by simp only [bne_eq_false_iff_eq]; omega
              have T3 := Lib.hid (show nodeGood 5 ks.length true = true from by simp [nodeGood, hm])
              clear hm
              go_wp2
              exact ⟨⟨i + 1, by omega, by go_num, by rw [T1.out, HA.out, T3.out]; rfl, hb.drew.alloc hb.size _⟩, by simp [intOf]; omega⟩
            · have d1 : ((ks.length : Int) != 2) = true := by simp only [bne_iff_ne, ne_eq]; omega
              have T3 := Lib.hid (show nodeGood 5 ks.length true = false from by simp [nodeGood, hm])
              clear hm
              go_wp2
              go_ret
              exact ⟨by rw [HMAY.out, T2.out T3.out]; simp, HFIN.out.drew.alloc HFIN.out.size _⟩
      · rw [show ((6 : Nat) : Int) = 6 from rfl] at c0
        cases q
        · go_wp2
          go_ret
          exact ⟨by rw [HMAY.out, T2.out (by simp [nodeGood])]; simp, HFIN.out⟩
        · go_wp2
          go_region
          all_goals
            by_cases hm : ks.length = 1
            · have d1 : ((ks.length : Int) != 1) = false := by simp only [bne_eq_false_iff_eq]; omega
              have T3 := Lib.hid (show nodeGood 6 ks.length true = true from by simp [nodeGood, hm])
              clear hm
              go_wp2
              exact ⟨⟨i + 1, by omega, by go_num, by rw [T1.out, HA.out, T3.out]; rfl, hb.drew.alloc hb.size _⟩, by simp [intOf]; omega⟩
            · have d1 : ((ks.length : Int) != 1) = true := by simp only [bne_iff_ne, ne_eq]; omega
              have T3 := Lib.hid (show nodeGood 6 ks.length true = false from by simp [nodeGood, hm])
              clear hm
              go_wp2
              go_ret
              exact ⟨by rw [HMAY.out, T2.out T3.out]; simp, HFIN.out.drew.alloc HFIN.out.size _⟩
    · have he : L.take i = L := List.take_of_length_le (by omega)
      rw [he] at HA
      have hd : decide ((L.length : Int) ≤ (2000 : Int)) = decide (L.length ≤ 2000) := by rw [decide_eq_decide]; omega
      have HD := Lib.hid hd
      clear hd he
      go_wp2
      go_ret
      exact ⟨by rw [HMAY.out, HA.out, ← HD.out]; rfl, HFIN.out⟩
theorem refMay_any {ok : Nat → Prop} (r : Rx) (v : Value) (w : World) (hbig : r.size ≤ 1000000) (h : ReAt ok w v r) :
    Calls Tryz.prog 22 #[v] w fun e w' => e = .returned (.bool (mayR r)) ∧ Below w.heap.size w w' := refMay_big r v w (Nat.le_trans hbig (by decide)) h
open Go.RowKit
noncomputable def exX (r : Rx) : Option Ex := by
  classical
  exact if h : ∃ e : Ex, e.rx = r ∧ e.Wf ∧ e.size ≤ 2000 then some (Classical.choose h) else none
theorem exX_of {e : Ex} (we : e.Wf) (hs : e.size ≤ 2000) : exX e.rx = some e := by
  classical
  have h : ∃ f : Ex, f.rx = e.rx ∧ f.Wf ∧ f.size ≤ 2000 := ⟨e, rfl, we, hs⟩
  unfold exX
  rw [dif_pos h]
  exact congrArg some (Ex.rx_inj _ _ (Classical.choose_spec h).1)
theorem exX_no {r : Rx} (h : mayR r = false) : exX r = none := by
  classical
  unfold exX
  rw [dif_neg]
  rintro ⟨e, rfl, we, hs⟩
  have : mayR e.rx = true := by simp [mayR, mayN, good_ex e we, Ex.size_rx, hs]
  rw [this] at h
  cases h
end Go.Proofs.YthgghaaddankoaaGreatDoor
/- Lemmas of mine. -/
namespace Go.Proofs.YthgghaaddankoaaGreatDoor
noncomputable def normX (r : Rx) : Rx := ((exX r).map fun e => (nfE e).rx).getD (.node 0 Ws.nil [])
open Go.RowKit
structure MM where
  most : Nat
  l : List Rx
  all : Nat
  met : Nat
def MM.new (room : Int) : MM := ⟨min room.toNat 10000, [], 0, 0⟩
def hitB (l : List Rx) (x : Rx) (j : Nat) : Bool := match l[j]? with
  | some y => sameR y x
  | none => false
def placeI (l : List Rx) (x : Rx) : Int := fstI (hitB l x) l.length
noncomputable def MM.find (m : MM) (r : Rx) : MM × Int × Bool :=
  if mayR r = true then (if 0 ≤ placeI m.l (normX r) then (⟨m.most, m.l, m.all + 1, m.met + 1⟩, placeI m.l (normX r), true) else (⟨m.most, m.l, m.all + 1, m.met⟩, 0, false)) else (m, 0, false)
noncomputable def MM.put (m : MM) (r : Rx) : MM × Int × Bool :=
  if mayR r = true then (if 0 ≤ placeI m.l (normX r) then (⟨m.most, m.l, m.all + 1, m.met + 1⟩, placeI m.l (normX r), true)
    else if m.most ≤ m.l.length then (⟨m.most, m.l, m.all + 1, m.met⟩, 0, false) else (⟨m.most, m.l ++ [normX r], m.all + 1, m.met⟩, (m.l.length : Int), true)) else (m, 0, false)
noncomputable def MM.puts (m : MM) (l : List Rx) : MM × Int × Bool := l.foldl (fun s r => s.1.put r) (m, 0, false)
def MM.at (m : MM) (i : Int) : Rx × Bool := if 0 ≤ i ∧ i < (m.l.length : Int) then ((m.l[i.toNat]?).getD (.node 0 Ws.nil []), true) else (.node 0 Ws.nil [], false)
theorem placeI_hit {l : List Rx} {x : Rx} {i : Nat} (hi : i < l.length) (h0 : ∀ j, j < i → hitB l x j = false) (h1 : hitB l x i = true) : placeI l x = (i : Int) := fstI_hit hi h0 h1
theorem hitB_iff {l : List Rx} {x : Rx} {j : Nat} : hitB l x j = true ↔ l[j]? = some x := by
  unfold hitB
  cases h : l[j]? with
  | none => simp
  | some y => simp [sameR_iff]
theorem placeI_cases (l : List Rx) (x : Rx) : (∃ i : Nat, placeI l x = (i : Int) ∧ i < l.length ∧ l[i]? = some x ∧ ∀ j, j < i → l[j]? ≠ some x) ∨ (placeI l x = -1 ∧ x ∉ l) := by
  unfold placeI fstI
  cases h : (List.range l.length).find? (hitB l x) with
  | some i =>
    rw [List.find?_range_eq_some] at h
    obtain ⟨h1, h2, h3⟩ := h
    refine .inl ⟨i, rfl, by simpa using h2, hitB_iff.1 (by simpa using h1), fun j hj e => ?_⟩
    have := h3 j hj
    rw [hitB_iff.2 e] at this
    cases this
  | none =>
    rw [List.find?_eq_none] at h
    refine .inr ⟨rfl, fun hx => ?_⟩
    obtain ⟨j, hj, e⟩ := List.getElem_of_mem hx
    exact h j (List.mem_range.2 hj) (hitB_iff.2 (by rw [List.getElem?_eq_getElem hj, e]))
theorem placeI_of {l : List Rx} {x : Rx} {i : Nat} (h1 : l[i]? = some x) (h0 : ∀ j, j < i → l[j]? ≠ some x) : placeI l x = (i : Int) := by
  refine placeI_hit (List.getElem?_eq_some_iff.1 h1).1 (fun j hj => ?_) (hitB_iff.2 h1)
  cases hh : hitB l x j with
  | false => rfl
  | true => exact absurd (hitB_iff.1 hh) (h0 j hj)
theorem placeI_not {l : List Rx} {x : Rx} (h : x ∉ l) : placeI l x = -1 := by
  rcases placeI_cases l x with ⟨i, _, h1, h2, _⟩ | ⟨h1, _⟩
  · exact absurd (List.mem_of_getElem? h2) h
  · exact h1
structure MM.Ok (m : MM) (n : Nat) : Prop where
  most : m.most ≤ 10000
  len : m.l.length ≤ m.most
  all : m.all ≤ n
  met : m.met ≤ m.all
  form : ∀ x ∈ m.l, ∃ r, mayR r = true ∧ normX r = x
  nodup : m.l.Nodup
theorem MM.new_ok (room : Int) : (MM.new room).Ok 0 := ⟨Nat.min_le_right _ _, Nat.zero_le _, Nat.le_refl _, Nat.le_refl _, fun x h => absurd h (by simp [MM.new]), List.nodup_nil⟩
theorem MM.Ok.mono {m : MM} {n k : Nat} (h : m.Ok n) (hk : n ≤ k) : m.Ok k := ⟨h.most, h.len, Nat.le_trans h.all hk, h.met, h.form, h.nodup⟩
theorem MM.Ok.put {m : MM} {n : Nat} (h : m.Ok n) (r : Rx) : (m.put r).1.Ok (n + 1) := by
  have h1 := h.all
  have h2 := h.met
  unfold MM.put
  split
  · rename_i hm
    split
    · exact ⟨h.most, h.len, Nat.succ_le_succ h1, Nat.succ_le_succ h2, h.form, h.nodup⟩
    · rename_i hp
      split
      · exact ⟨h.most, h.len, Nat.succ_le_succ h1, Nat.le_succ_of_le h2, h.form, h.nodup⟩
      · rename_i hl
        have hn : normX r ∉ m.l := by
          rcases placeI_cases m.l (normX r) with ⟨i, e, _⟩ | ⟨_, h⟩
          · rw [e] at hp; omega
          · exact h
        refine ⟨h.most, ?_, Nat.succ_le_succ h1, Nat.le_succ_of_le h2, ?_, ?_⟩
        · simp; omega
        · intro x hx
          rcases List.mem_append.1 hx with hx | hx
          · exact h.form x hx
          · simp at hx
            exact ⟨r, hm, hx.symm⟩
        · rw [List.nodup_append]
          refine ⟨h.nodup, by simp, ?_⟩
          intro a ha b hb e
          simp at hb
          subst hb
          subst e
          exact hn ha
  · exact h.mono (Nat.le_succ _)
theorem list_snoc {α : Type} {p : List α → Prop} (h0 : p []) (h1 : ∀ l r, p l → p (l ++ [r])) (l : List α) : p l := by
  rw [← List.reverse_reverse l]
  induction l.reverse with
  | nil => exact h0
  | cons a t ih => rw [List.reverse_cons]; exact h1 _ _ ih
theorem MM.puts_snoc (m : MM) (l : List Rx) (r : Rx) : m.puts (l ++ [r]) = (m.puts l).1.put r := by simp [MM.puts, List.foldl_append]
theorem MM.Ok.puts {m : MM} {n : Nat} (h : m.Ok n) : ∀ l : List Rx, (m.puts l).1.Ok (n + l.length) := by
  intro l
  induction l using list_snoc with
  | h0 => exact h
  | h1 l r ih =>
    rw [MM.puts_snoc, List.length_append]
    exact ih.put r
theorem MM.at_none (m : MM) {i : Int} (h : ¬ (0 ≤ i ∧ i < (m.l.length : Int))) : m.at i = (.node 0 Ws.nil [], false) := by unfold MM.at; rw [if_neg h]
theorem MM.at_some (m : MM) {i : Int} (h : 0 ≤ i ∧ i < (m.l.length : Int)) : ∃ x, m.l[i.toNat]? = some x ∧ m.at i = (x, true) := by
  unfold MM.at
  rw [if_pos h]
  have hl : i.toNat < m.l.length := by omega
  exact ⟨m.l[i.toNat], List.getElem?_eq_getElem hl, by rw [List.getElem?_eq_getElem hl]; rfl⟩
open Go.RowKit
def RdB (w : World) (D : Nat) (s : ByteArray) (k : Nat) (vl : Value) : Prop := w.heap[D]? = some (.cells #[.string s, .int .i64 k, vl] 111 (0, 0))
theorem RdB.lt {w : World} {D : Nat} {s : ByteArray} {k : Nat} {vl : Value} (h : RdB w D s k vl) : D < w.heap.size := (Array.getElem?_eq_some_iff.1 h).1
theorem RdB.cells {w : World} {D : Nat} {s : ByteArray} {k : Nat} {vl : Value} (h : RdB w D s k vl) : w.cell? ⟨D, 0, none⟩ = some (.string s) ∧ w.cell? ⟨D, 1, none⟩ = some (.int .i64 k) ∧ w.cell? ⟨D, 2, none⟩ = some vl := by
  unfold RdB at h
  refine ⟨?_, ?_, ?_⟩ <;> (rw [Lib.cell_of_heap h]; rfl)
theorem RdB.frozen {w : World} {D : Nat} {s : ByteArray} {k : Nat} {vl : Value} (h : RdB w D s k vl) : w.frozen? ⟨D, 0, none⟩ = false ∧ w.frozen? ⟨D, 1, none⟩ = false ∧ w.frozen? ⟨D, 2, none⟩ = false :=
  ⟨Lib.frozen_of_heap h 0, Lib.frozen_of_heap h 1, Lib.frozen_of_heap h 2⟩
theorem RdB.of {w w' : World} {D : Nat} {s : ByteArray} {k : Nat} {vl : Value} (h : RdB w D s k vl) (e : w'.heap[D]? = w.heap[D]?) : RdB w' D s k vl := e.trans h
theorem RdB.below {w w' : World} {D : Nat} {s : ByteArray} {k : Nat} {vl : Value} (h : RdB w D s k vl) (hb : Below w.heap.size w w') : RdB w' D s k vl := h.of (hb.block D h.lt)
theorem RdB.go {w : World} {D : Nat} {s : ByteArray} {k : Nat} {vl : Value} (h : RdB w D s k vl) (j : Nat) : RdB (w.setCell ⟨D, 1, none⟩ (.int .i64 (j : Int))) D s j vl := by
  unfold RdB at h ⊢
  simp [World.setCell, Array.getElem?_modify, h]
theorem RdB.lay {w : World} {D : Nat} {s : ByteArray} {k : Nat} {vl : Value} (h : RdB w D s k vl) (u : Value) : RdB (w.setCell ⟨D, 2, none⟩ u) D s k u := by
  unfold RdB at h ⊢
  simp [World.setCell, Array.getElem?_modify, h]
def thr (k : Nat) : Ending := .panicked [{ v := .iface 86 (.int .i64 k), recovered := false }]
theorem must_yes (p : Value) (w : World) : Calls Tryz.prog 52 #[p, .bool true] w fun e w' => e = .returned (.tuple #[]) ∧ w' = w := by
  go_enter Tryz.func52, Tryz.ntmps52
  go_wp2
  go_end0
  exact ⟨rfl, rfl⟩
theorem must_no {w : World} {D : Nat} {s : ByteArray} {k : Nat} {vl : Value} (h : RdB w D s k vl) : Calls Tryz.prog 52 #[.pointer (some ⟨D, 0, none⟩), .bool false] w fun e w' => e = thr k ∧ w' = w := by
  obtain ⟨c0, c1, c2⟩ := h.cells
  go_enter Tryz.func52, Tryz.ntmps52
  go_wp2
  exact ⟨rfl, rfl, rfl⟩
def frS (l : List UInt8) : ByteArray := ⟨(l.take 1).toArray⟩
theorem frS_ext (s : ByteArray) (k j : Nat) (hj : j = k + 1 ∨ (j = k ∧ s.size ≤ k)) : s.extract k j = frS (tl s k) := by
  apply ByteArray.ext
  unfold frS tl
  rw [ByteArray.data_extract]
  apply Array.ext'
  rw [Array.toList_extract, List.extract_eq_take_drop]
  rcases hj with rfl | ⟨rfl, h⟩
  · simp
  · rw [List.drop_eq_nil_of_le (by simpa using h)]; simp
set_option maxHeartbeats 1000000 in
theorem front_any {w : World} {D : Nat} {s : ByteArray} {k : Nat} {vl : Value} (h : RdB w D s k vl) (hs : s.size ≤ 1000000000) (hk : k ≤ s.size) : Calls Tryz.prog 75 #[.pointer (some ⟨D, 0, none⟩)] w fun e w' => e = .returned (.string (frS (tl s k))) ∧ Below w.heap.size w w' := by
  obtain ⟨c0, c1, c2⟩ := h.cells
  have wk : IntKind.i64.wrap ((k : Int) + 1) = (k : Int) + 1 := by rw [IntKind.wrap_i64]; omega
  clear h
  by_cases hlt : k < s.size
  · have q1 : (k : Int) + 1 ≤ (s.size : Int) := by omega
    have q2 : ((k : Int) + 1).toNat = k + 1 := by omega
    have hm : min ((k : Int) + 1) (s.size : Int) = (k : Int) + 1 := by omega
    go_enter Tryz.func75, Tryz.ntmps75
    go_wp2
    go_quiet (fail)
    go_wp2
    go_ret
    exact ⟨by rw [frS_ext s k (k + 1) (.inl rfl)]; rfl, below_drewN (Below.refl _ _) _⟩
  · have hke : k = s.size := by omega
    subst hke
    have hm : min ((s.size : Int) + 1) (s.size : Int) = (s.size : Int) := by omega
    go_enter Tryz.func75, Tryz.ntmps75
    go_wp2
    go_quiet (fail)
    go_wp2
    go_ret
    exact ⟨by rw [tl_nil s _ (Nat.le_refl _)]; rfl, below_drewN (Below.refl _ _) _⟩
set_option maxHeartbeats 1000000 in
theorem top_any {w : World} {D : Nat} {s : ByteArray} {k g n cap : Nat} (h : RdB w D s k (.slice (some ⟨g, 0, none⟩) (n + 1) cap)) (hn : n < 1000000000) : Calls Tryz.prog 86 #[.pointer (some ⟨D, 0, none⟩)] w fun e w' => e = .returned (.pointer (some ⟨g, n * 2, none⟩)) ∧ Below w.heap.size w w' := by
  obtain ⟨c0, c1, c2⟩ := h.cells
  have q1 : ((n + 1 : Nat) : Int) - 1 = (n : Int) := by omega
  have wk : IntKind.i64.wrap (n : Int) = (n : Int) := by rw [IntKind.wrap_i64]; omega
  clear h
  go_enter Tryz.func86, Tryz.ntmps86
  go_wp2
  go_quiet (fail)
  go_wp2
  go_ret
  exact ⟨rfl, below_drewN (Below.refl _ _) _⟩
end Go.Proofs.YthgghaaddankoaaGreatDoor
/- Lemmas of mine. -/
namespace Go.Proofs.YthgghaaddankoaaGreatDoor
theorem MM.puts_one (m : MM) (r : Rx) : m.puts [r] = m.put r := by simp [MM.puts]
theorem MM.put_no (m : MM) {r : Rx} (h : mayR r = false) : m.put r = (m, 0, false) := by unfold MM.put; rw [h, if_neg (by decide)]
theorem MM.put_yes {m : MM} {n : Nat} (hk : m.Ok n) {r : Rx} (hr : m.l.length < m.most) (h : mayR r = true) :
    ∃ (a : Nat) (m1 : MM), m.put r = (m1, (a : Int), true) ∧ m1.put r = (⟨m1.most, m1.l, m1.all + 1, m1.met + 1⟩, (a : Int), true) ∧ m1.at (a : Int) = (normX r, true) ∧ m1.most = m.most ∧ m1.l.length ≤ m.l.length + 1 ∧ a < 10000 := by
  have h2 : ∀ (m1 : MM) (a : Nat), m1.l[a]? = some (normX r) → (∀ j, j < a → m1.l[j]? ≠ some (normX r)) → m1.put r = (⟨m1.most, m1.l, m1.all + 1, m1.met + 1⟩, (a : Int), true) ∧ m1.at (a : Int) = (normX r, true) := by
    intro m1 a h1 h0
    refine ⟨?_, ?_⟩
    · unfold MM.put
      rw [h, if_pos rfl, placeI_of h1 h0, if_pos (by omega)]
    · unfold MM.at
      have hl := (List.getElem?_eq_some_iff.1 h1).1
      rw [if_pos ⟨by omega, by omega⟩, Int.toNat_natCast, h1]
      rfl
  have hm := hk.most
  rcases placeI_cases m.l (normX r) with ⟨a, e, hi, h1, h0⟩ | ⟨e, hn⟩
  · refine ⟨a, ⟨m.most, m.l, m.all + 1, m.met + 1⟩, ?_, (h2 ⟨m.most, m.l, m.all + 1, m.met + 1⟩ a h1 h0).1, (h2 ⟨m.most, m.l, m.all + 1, m.met + 1⟩ a h1 h0).2, rfl, Nat.le_succ _, by omega⟩
    unfold MM.put
    rw [h, if_pos rfl, e, if_pos (by omega)]
  · refine ⟨m.l.length, ⟨m.most, m.l ++ [normX r], m.all + 1, m.met⟩, ?_, (h2 ⟨m.most, m.l ++ [normX r], m.all + 1, m.met⟩ _ ?_ ?_).1, (h2 ⟨m.most, m.l ++ [normX r], m.all + 1, m.met⟩ _ ?_ ?_).2, rfl, by simp, by omega⟩
    · unfold MM.put
      rw [h, if_pos rfl, e, if_neg (by decide), if_neg (by omega)]
    all_goals first
      | (show (m.l ++ [normX r])[m.l.length]? = _; rw [List.getElem?_append_right (Nat.le_refl _)]; simp)
      | (intro j hj; show (m.l ++ [normX r])[j]? ≠ _; rw [List.getElem?_append_left hj]; exact fun e => hn (List.mem_of_getElem? e))
open Go.RowKit
def OutAt (n B : Nat) (w : World) (al : Option Addr) (O : List Rx) : Prop := O = [] ∨ ∃ g off, al = some ⟨g, off, none⟩ ∧ n ≤ g ∧ g < w.heap.size ∧ NodesAt (Lo B) w g off O
theorem OutAt.kid {n B : Nat} {w : World} {al : Option Addr} {O : List Rx} (h : OutAt n B w al O) {k : Nat} (hk : k < O.length) : ∃ g off, al = some ⟨g, off, none⟩ ∧ g < w.heap.size ∧ NodeAt (Lo B) w g (off + k * 6) O[k] := by
  rcases h with h | ⟨g, off, e, _, h2, h3⟩
  · subst h; simp at hk
  · exact ⟨g, off, e, h2, nodesAt_get h3 k hk⟩
theorem OutAt.row {n B : Nat} {w : World} {al : Option Addr} {O : List Rx} (h : OutAt n B w al O) : RowAt (fun b => Lo B b ∨ n ≤ b) w al O := by
  rcases h with h | ⟨g, off, e, h1, h2, h3⟩
  · exact .inl h
  · exact .inr ⟨g, off, e, h2, .inr h1, NodesAt.go (ok := Lo B) ⟨Nat.le_refl _, fun b _ h => ⟨.inl h, rfl⟩⟩ O rfl h3⟩
theorem out_of_own {n B : Nat} {w : World} {v : Value} {xs : List Value} {O : List Rx} (h : w.ownsRow n 39 6 v O.length xs) (hv : RowVals (Lo B) w xs O) : ∃ al cap, v = .slice al O.length cap ∧ O.length ≤ cap ∧ OutAt n B w al O := by
  by_cases hO : O = []
  · obtain ⟨al, cap, e, h1, _⟩ := row_of_own h hv
    exact ⟨al, cap, e, h1, .inl hO⟩
  · obtain ⟨g, cap, e, h1, h2, h3, h4⟩ := own_nodes h hv hO
    exact ⟨_, cap, e, h3, .inr ⟨g, 0, rfl, h1, h2, h4⟩⟩
def insAt (r : Rx) (O M : List Rx) (k : Nat) (dn : Bool) : Prop := insR r O = M ++ (if dn = true then O.drop k else insR r (O.drop k)) ∧ M.length = k + (if dn = true then 1 else 0)
theorem insAt_start (r : Rx) (O : List Rx) : insAt r O [] 0 false := ⟨by simp, rfl⟩
theorem insAt_done {r : Rx} {O M : List Rx} {k : Nat} (h : insAt r O M k true) (hk : k < O.length) : insAt r O (M ++ [O[k]]) (k + 1) true := by
  obtain ⟨h1, h2⟩ := h
  refine ⟨?_, by simp at h2 ⊢; omega⟩
  rw [h1]
  simp only [if_true]
  rw [List.drop_eq_getElem_cons hk]; simp
theorem insAt_go {r : Rx} {O M : List Rx} {k : Nat} (h : insAt r O M k false) (hk : k < O.length) (hc : ¬ ordR r O[k] < 0) : insAt r O (M ++ [O[k]]) (k + 1) false := by
  obtain ⟨h1, h2⟩ := h
  refine ⟨?_, by simp at h2 ⊢; omega⟩
  rw [h1]
  simp only [Bool.false_eq_true, if_false]
  rw [List.drop_eq_getElem_cons hk]
  simp [insR, hc]
theorem insAt_put {r : Rx} {O M : List Rx} {k : Nat} (h : insAt r O M k false) (hk : k < O.length) (hc : ordR r O[k] < 0) : insAt r O (M ++ [r] ++ [O[k]]) (k + 1) true := by
  obtain ⟨h1, h2⟩ := h
  refine ⟨?_, by simp at h2 ⊢; omega⟩
  rw [h1]
  simp only [Bool.false_eq_true, if_false, if_true]
  rw [List.drop_eq_getElem_cons hk]
  simp [insR, hc]
theorem insAt_end {r : Rx} {O M : List Rx} {k : Nat} (h : insAt r O M k true) (hk : k = O.length) : insR r O = M := by
  obtain ⟨h1, _⟩ := h
  rw [h1, hk]; simp
theorem insAt_last {r : Rx} {O M : List Rx} {k : Nat} (h : insAt r O M k false) (hk : k = O.length) : insR r O = M ++ [r] := by
  obtain ⟨h1, _⟩ := h
  rw [h1, hk]; simp [insR]
theorem sort_take (l : List Rx) (i : Nat) (h : i < l.length) : sortR (l.take (i + 1)) = insR l[i] (sortR (l.take i)) := by
  rw [List.take_succ_eq_append_getElem h, sortR_snoc]
open Go.RowKit
def sortInv (B : Nat) (l : List Rx) (w : World) (v y : Value) (wr : World) : Prop := ∃ (i : Nat) (O : List Rx) (al : Option Addr) (cap : Nat), i ≤ l.length ∧ y = .int .i64 i ∧ O = sortR (l.take i) ∧ v = .slice al O.length cap ∧ O.length ≤ cap ∧ OutAt w.heap.size B wr al O ∧ Below w.heap.size w wr
def putInv (B : Nat) (r : Rx) (O : List Rx) (wr : World) (v d y : Value) (wi : World) : Prop := ∃ (k n : Nat) (dn : Bool) (M : List Rx) (xs : List Value), k ≤ O.length ∧ y = .int .i64 k ∧ d = .bool dn ∧ insAt r O M k dn ∧ n = M.length ∧ n ≤ k + 1 ∧ Below wr.heap.size wr wi ∧ wr.heap.size ≤ wi.heap.size ∧ wi.ownsRow wr.heap.size 39 6 v n xs ∧ RowVals (Lo B) wi xs M
set_option maxHeartbeats 8000000 in
set_option maxRecDepth 100000 in
theorem refSort_any (B : Nat) (l : List Rx) (al : Option Addr) (cap : Nat) (w : World) (hl : l.length ≤ 1000000) (hB : B ≤ w.heap.size) (hR : RowAt (Lo B) w al l) :
    Calls Tryz.prog 70 #[.slice al l.length cap] w (RowPost B (sortR l) w) := by
  obtain ⟨i0, hi, hz0, hz1, hz2⟩ := info_parts infoR
  have hz2' := Lib.hid hz2
  have HR := Lib.hid hR
  clear hz2 hR
  go_enter Tryz.func70, Tryz.ntmps70
  go_wp2
  go_loopw [3, 11] (fun v y wr => sortInv B l w v y wr) (fun _ y _ => l.length - (intOf y).toNat)
  case atStart => exact ⟨0, [], some ⟨w.heap.size, 0, none⟩, 0, Nat.zero_le _, rfl, by simp [sortR], rfl, Nat.le_refl _, .inl rfl, (Below.refl _ w).alloc (Nat.le_refl _) _⟩
  case round =>
    obtain ⟨i, O, alO, capO, hii, rfl, hO, rfl, hcapO, hout, hb⟩ := hrel
    obtain ⟨wo, hwo⟩ : ∃ wo, wo = wr := ⟨_, rfl⟩
    subst hwo
    have hOl : O.length = i := by rw [hO, sortR_length, List.length_take]; omega
    have HEQ := Lib.hid hO
    have HOUT := Lib.hid hout
    have HOL := Lib.hid hOl
    have hsz := hb.size
    clear hO hout
    by_cases hlt : i < l.length
    · obtain ⟨b, off, hab, hblt, hnode⟩ := HR.out.kid hlt
      subst hab
      have hst := sort_take l i hlt
      rw [← HEQ.out] at hst
      have hkr := NodeAt.below hb _ hblt hnode
      generalize l[i] = kid at *
      obtain ⟨k', ⟨ta, tb, tc, td⟩, ks'⟩ := kid
      obtain ⟨al', cap', ⟨c0r, c1r, c2r, c3r, c4r, c5r⟩, hre⟩ := hkr.read
      simp only at c0r c1r c2r c3r c4r c5r
      have hbr : b < wo.heap.size := Nat.lt_of_lt_of_le hblt hsz
      have hcr : ∀ W, Below wo.heap.size wo W → (W.cell? ⟨b, off + i * 6, none⟩ = some (.int .u8 k') ∧ W.cell? ⟨b, off + i * 6 + 1, none⟩ = some (.int .u64 ta) ∧ W.cell? ⟨b, off + i * 6 + 2, none⟩ = some (.int .u64 tb) ∧ W.cell? ⟨b, off + i * 6 + 3, none⟩ = some (.int .u64 tc) ∧ W.cell? ⟨b, off + i * 6 + 4, none⟩ = some (.int .u64 td) ∧ W.cell? ⟨b, off + i * 6 + 5, none⟩ = some (.slice al' ks'.length cap')) := fun W hW => by
        have e := fun o => hW.cell (p := ⟨b, o, none⟩) hbr
        exact ⟨by rw [e]; exact c0r, by rw [e]; exact c1r, by rw [e]; exact c2r, by rw [e]; exact c3r, by rw [e]; exact c4r, by rw [e]; exact c5r⟩
      have HCR := Lib.hid hcr
      have HRE := Lib.hid hre
      have HST := Lib.hid hst
      clear c0r c1r c2r c3r c4r c5r hcr hre hnode hkr hst
      generalize Rx.node k' ⟨ta, tb, tc, td⟩ ks' = r at *
      have q1 : (i : Int) < (l.length : Int) := by omega
      have hBr : B ≤ wo.heap.size := Nat.le_trans hB hsz
      go_wp2
      go_loopw [5, 6, 17] (fun v d y wr => putInv B r O wo v d y wr) (fun _ _ y _ => O.length - (intOf y).toNat)
      case atStart => exact ⟨0, 0, false, [], [], Nat.zero_le _, rfl, rfl, insAt_start r O, rfl, by omega, (Below.refl _ wo).alloc (Nat.le_refl _) _, by simp, ⟨rfl, .inr ⟨wo.heap.size, 0, #[], rfl, Nat.le_refl _, blk_new wo _, Nat.le_refl _, Nat.zero_le _, rfl, rfl⟩⟩, RowVals.nil _ _⟩
      case round =>
        obtain ⟨k, n, dn, M, xs, hk, rfl, rfl, hins, hn, hnk, hbi, hsi, hown, hvals⟩ := hrel
        have HO := Lib.hid hown
        have HV := Lib.hid hvals
        have HI := Lib.hid hins
        have HN := Lib.hid hn
        clear hown hvals hins hn
        by_cases hkl : k < O.length
        · obtain ⟨g, off2, hag, hglt0, hno⟩ := HOUT.out.kid hkl
          subst hag
          have s1 := fun (h : insAt r O M k true) => insAt_done h hkl
          have s2 := fun (h : insAt r O M k false) hc => insAt_go h hkl hc
          have s3 := fun (h : insAt r O M k false) hc => insAt_put h hkl hc
          generalize O[k] = o at *
          obtain ⟨u0, ⟨u1, u2, u3, u4⟩, us⟩ := o
          obtain ⟨ul, uc, ⟨f0, f1, f2, f3, f4, f5⟩, hro0⟩ := hno.read
          simp only at f0 f1 f2 f3 f4 f5
          have hglt : g < wr.heap.size := Nat.lt_of_lt_of_le hglt0 hsi
          have HCO := Lib.hid fun W (hW : Below wo.heap.size wo W) => show (W.cell? ⟨g, off2 + k * 6, none⟩ = some (.int .u8 u0) ∧ W.cell? ⟨g, off2 + k * 6 + 1, none⟩ = some (.int .u64 u1) ∧ W.cell? ⟨g, off2 + k * 6 + 2, none⟩ = some (.int .u64 u2) ∧ W.cell? ⟨g, off2 + k * 6 + 3, none⟩ = some (.int .u64 u3) ∧ W.cell? ⟨g, off2 + k * 6 + 4, none⟩ = some (.int .u64 u4) ∧ W.cell? ⟨g, off2 + k * 6 + 5, none⟩ = some (.slice ul us.length uc)) from by
            have e := fun o => hW.cell (p := ⟨g, o, none⟩) hglt0
            exact ⟨by rw [e]; exact f0, by rw [e]; exact f1, by rw [e]; exact f2, by rw [e]; exact f3, by rw [e]; exact f4, by rw [e]; exact f5⟩
          have HR0 := Lib.hid hro0
          have hro := hro0.below hbi
          obtain ⟨e0, e1, e2, e3, e4, e5⟩ := HCO.out _ hbi
          clear f0 f1 f2 f3 f4 f5 hro0
          obtain ⟨c0, c1, c2, c3, c4, c5⟩ := HCR.out _ hbi
          have KEEP := Lib.hid fun x (hx : Below wr.heap.size wr x) => show ((x.cell? ⟨b, off + i * 6, none⟩ = some (.int .u8 k') ∧ x.cell? ⟨b, off + i * 6 + 1, none⟩ = some (.int .u64 ta) ∧ x.cell? ⟨b, off + i * 6 + 2, none⟩ = some (.int .u64 tb) ∧ x.cell? ⟨b, off + i * 6 + 3, none⟩ = some (.int .u64 tc) ∧ x.cell? ⟨b, off + i * 6 + 4, none⟩ = some (.int .u64 td) ∧ x.cell? ⟨b, off + i * 6 + 5, none⟩ = some (.slice al' ks'.length cap')) ∧ (x.cell? ⟨g, off2 + k * 6, none⟩ = some (.int .u8 u0) ∧ x.cell? ⟨g, off2 + k * 6 + 1, none⟩ = some (.int .u64 u1) ∧ x.cell? ⟨g, off2 + k * 6 + 2, none⟩ = some (.int .u64 u2) ∧ x.cell? ⟨g, off2 + k * 6 + 3, none⟩ = some (.int .u64 u3) ∧ x.cell? ⟨g, off2 + k * 6 + 4, none⟩ = some (.int .u64 u4) ∧ x.cell? ⟨g, off2 + k * 6 + 5, none⟩ = some (.slice ul us.length uc))) ∧ Below wr.heap.size wr x from by
            have ec := HCR.out x (hbi.trans (hx.mono hsi))
            have eo := fun o => hx.cell (p := ⟨g, o, none⟩) hglt
            exact ⟨⟨ec, by rw [eo]; exact e0, by rw [eo]; exact e1, by rw [eo]; exact e2, by rw [eo]; exact e3, by rw [eo]; exact e4, by rw [eo]; exact e5⟩, hx⟩
          have HRO := Lib.hid hro
          have K2 := Lib.hid fun W (h : Below wr.heap.size wr W) => refTwoX r _ _ _ W ((HRE.out.below hbi).below h) (hro.below h)
          generalize Rx.node u0 ⟨u1, u2, u3, u4⟩ us = o at *
          generalize ordR r o = q at *
          have S1 := Lib.hid s1
          have S2 := Lib.hid s2
          have S3 := Lib.hid s3
          have q2 : (k : Int) < (O.length : Int) := by omega
          clear s1 s2 s3 hno hro e0 e1 e2 e3 e4 e5 c0 c1 c2 c3 c4 c5
          cases dn with
          | true =>
            go_wp2_with fail
            go_quiet (fail)
            have hbx : Below wr.heap.size wr (wr.drewN nq) := below_drewN (Below.refl _ _) nq
            generalize wr.drewN nq = x at hbx ⊢
            obtain ⟨⟨⟨c0, c1, c2, c3, c4, c5⟩, ⟨e0, e1, e2, e3, e4, e5⟩⟩, -⟩ := KEEP.out _ hbx
            have HO1 := Lib.hid (ownR_below HO.out hbx)
            have HV1 := Lib.hid (HV.out.go (kept_lo (by omega) (hbx.mono (by omega))))
            have HRX := Lib.hid ((HRE.out.below hbi).below hbx)
            have HOX := Lib.hid (HRO.out.below hbx)
            have hgx : g < x.heap.size := Nat.lt_of_lt_of_le hglt hbx.size
            replace hbi := hbi.trans (hbx.mono hsi)
            replace hsi := hbi.size
            clear hbx
            go_wp2_with (at_builtin; refine wpList_append_own _ rfl _ _ 27 rfl wo.heap.size 39 i0 _ 6 64 Tryz.underlying27 hi hz0 hz1 hz2'.out rfl (by decide) _ _ _ rfl (HO1.out.alloc _) ⟨x.heap.size, 0, none⟩ 1 1 [.int .u8 u0, .int .u64 u1, .int .u64 u2, .int .u64 u3, .int .u64 u4, .slice ul us.length uc] rfl rfl ?c1 ?c2 ?c3 ?c4 ?c5 ?_)
            case c1 => exact six_cells x _ _ _ _ _ _
            case c2 => intro u hu; simp at hu; rcases hu with rfl | rfl | rfl | rfl | rfl | rfl <;> rfl
            case c3 => unfold maxLen; omega
            case c4 => omega
            case c5 => simp; omega
            intro vy y hown' hgrow _
            have hge := ownR_ge HO1.out
            have hbn : Below wo.heap.size wo y := (hbi.alloc hbi.size _).grown hgrow (by simp; omega) hge
            have hbl : Below B x y := ((Below.refl B x).alloc (by omega) _).grown hgrow (by simp; omega) (fun g hg => by have := hge g hg; omega)
            have hvals := (HV1.out.go (kept_lo (by omega) hbl)).append ((RowVals.one HOX.out).go (kept_lo (by omega) hbl))
            have HOW := Lib.hid hown'
            have HVL := Lib.hid hvals
            replace hbi := hbn
            replace hsi := hbi.size
            clear hgrow hown' hvals hge hbl hbn
            clear c0 c1 c2 c3 c4 c5 e0 e1 e2 e3 e4 e5
            go_wp2
            exact ⟨⟨k + 1, n + 1, true, _, _, by omega, by go_num, rfl, S1.out HI.out, by rw [List.length_append, ← HN.out]; rfl, by omega, hbi, hsi, HOW.out, HVL.out⟩, by simp [intOf]; omega⟩
          | false =>
            go_wp2_with fail
            go_region_held3 (fun x => ((x.cell? ⟨b, off + i * 6, none⟩ = some (.int .u8 k') ∧ x.cell? ⟨b, off + i * 6 + 1, none⟩ = some (.int .u64 ta) ∧ x.cell? ⟨b, off + i * 6 + 2, none⟩ = some (.int .u64 tb) ∧ x.cell? ⟨b, off + i * 6 + 3, none⟩ = some (.int .u64 tc) ∧ x.cell? ⟨b, off + i * 6 + 4, none⟩ = some (.int .u64 td) ∧ x.cell? ⟨b, off + i * 6 + 5, none⟩ = some (.slice al' ks'.length cap')) ∧ (x.cell? ⟨g, off2 + k * 6, none⟩ = some (.int .u8 u0) ∧ x.cell? ⟨g, off2 + k * 6 + 1, none⟩ = some (.int .u64 u1) ∧ x.cell? ⟨g, off2 + k * 6 + 2, none⟩ = some (.int .u64 u2) ∧ x.cell? ⟨g, off2 + k * 6 + 3, none⟩ = some (.int .u64 u3) ∧ x.cell? ⟨g, off2 + k * 6 + 4, none⟩ = some (.int .u64 u4) ∧ x.cell? ⟨g, off2 + k * 6 + 5, none⟩ = some (.slice ul us.length uc))) ∧ Below wr.heap.size wr x) (first | assumption | (with_reducible exact KEEP.out _ (Below.refl _ _).drew) | (with_reducible exact KEEP.out _ (by assumption)))
              (first | (go_at_call 104; (with_reducible refine (K2.out _ (And.right (by assumption))).mono ?_); (rintro e x ⟨rfl, hb1⟩); (have hbx : Below wr.heap.size wr x := (Below.refl _ wr).drew.trans hb1)))
            all_goals
              obtain ⟨⟨⟨c0, c1, c2, c3, c4, c5⟩, ⟨e0, e1, e2, e3, e4, e5⟩⟩, -⟩ := KEEP.out _ hbx
              have HO1 := Lib.hid (ownR_below HO.out hbx)
              have HV1 := Lib.hid (HV.out.go (kept_lo (by omega) (hbx.mono (by omega))))
              have HRX := Lib.hid ((HRE.out.below hbi).below hbx)
              have HOX := Lib.hid (HRO.out.below hbx)
              have hgx : g < x.heap.size := Nat.lt_of_lt_of_le hglt hbx.size
              replace hbi := hbi.trans (hbx.mono hsi)
              replace hsi := hbi.size
              clear hbx
              by_cases hq : q < 0
              · have d9 : decide (q < 0) = true := by simpa using hq
                rw [d9]
                go_wp2_with (at_builtin; refine wpList_append_own _ rfl _ _ 27 rfl wo.heap.size 39 i0 _ 6 64 Tryz.underlying27 hi hz0 hz1 hz2'.out rfl (by decide) _ _ _ rfl (HO1.out.alloc _) ⟨x.heap.size, 0, none⟩ 1 1 [.int .u8 k', .int .u64 ta, .int .u64 tb, .int .u64 tc, .int .u64 td, .slice al' ks'.length cap'] rfl rfl ?c1 ?c2 ?c3 ?c4 ?c5 ?_)
                case c1 => exact six_cells x _ _ _ _ _ _
                case c2 => intro u hu; simp at hu; rcases hu with rfl | rfl | rfl | rfl | rfl | rfl <;> rfl
                case c3 => unfold maxLen; omega
                case c4 => omega
                case c5 => simp; omega
                intro vy y hown' hgrow _
                have hge := ownR_ge HO1.out
                have hbn : Below wo.heap.size wo y := (hbi.alloc hbi.size _).grown hgrow (by simp; omega) hge
                have hbl : Below B x y := ((Below.refl B x).alloc (by omega) _).grown hgrow (by simp; omega) (fun g hg => by have := hge g hg; omega)
                have hvals := (HV1.out.go (kept_lo (by omega) hbl)).append ((RowVals.one HRX.out).go (kept_lo (by omega) hbl))
                have HOW := Lib.hid hown'
                have HVL := Lib.hid hvals
                replace hbi := hbn
                replace hsi := hbi.size
                clear hgrow hown' hvals hge hbl hbn
                clear c0 c1 c2 c3 c4 c5 e0 e1 e2 e3 e4 e5
                obtain ⟨e0, e1, e2, e3, e4, e5⟩ := HCO.out _ hbi
                have HOY := Lib.hid (HR0.out.below hbi)
                go_wp2_with (at_builtin; refine wpList_append_own _ rfl _ _ 27 rfl wo.heap.size 39 i0 _ 6 64 Tryz.underlying27 hi hz0 hz1 hz2'.out rfl (by decide) _ _ _ rfl (HOW.out.alloc _) ⟨y.heap.size, 0, none⟩ 1 1 [.int .u8 u0, .int .u64 u1, .int .u64 u2, .int .u64 u3, .int .u64 u4, .slice ul us.length uc] rfl rfl ?m1 ?m2 ?m3 ?m4 ?m5 ?_)
                case m1 => exact six_cells y _ _ _ _ _ _
                case m2 => intro u hu; simp at hu; rcases hu with rfl | rfl | rfl | rfl | rfl | rfl <;> rfl
                case m3 => unfold maxLen; omega
                case m4 => omega
                case m5 => simp; omega
                intro vz z hown' hgrow _
                have hge := ownR_ge HOW.out
                have hbn : Below wo.heap.size wo z := (hbi.alloc hbi.size _).grown hgrow (by simp; omega) hge
                have hbl : Below B y z := ((Below.refl B y).alloc (by omega) _).grown hgrow (by simp; omega) (fun g hg => by have := hge g hg; omega)
                have hvals := (HVL.out.go (kept_lo (by omega) hbl)).append ((RowVals.one HOY.out).go (kept_lo (by omega) hbl))
                have HOZ := Lib.hid hown'
                have HVZ := Lib.hid hvals
                replace hbi := hbn
                replace hsi := hbi.size
                clear hgrow hown' hvals hge hbl hbn
                have HS := Lib.hid (S3.out HI.out hq)
                clear hq e0 e1 e2 e3 e4 e5
                go_wp2
                exact ⟨⟨k + 1, n + 1 + 1, true, _, _, by omega, by go_num, rfl, HS.out, by rw [List.length_append, List.length_append, ← HN.out]; rfl, by have h := HI.out.2; have := HN.out; simp only [Bool.false_eq_true, if_false] at h; omega, hbi, hsi, HOZ.out, by simpa [List.append_assoc] using HVZ.out⟩, by simp [intOf]; omega⟩
              · have d9 : decide (q < 0) = false := by simpa using hq
                rw [d9]
                go_wp2_with (at_builtin; refine wpList_append_own _ rfl _ _ 27 rfl wo.heap.size 39 i0 _ 6 64 Tryz.underlying27 hi hz0 hz1 hz2'.out rfl (by decide) _ _ _ rfl (HO1.out.alloc _) ⟨x.heap.size, 0, none⟩ 1 1 [.int .u8 u0, .int .u64 u1, .int .u64 u2, .int .u64 u3, .int .u64 u4, .slice ul us.length uc] rfl rfl ?n1 ?n2 ?n3 ?n4 ?n5 ?_)
                case n2 => exact ⟨rfl, rfl, rfl, rfl, rfl, rfl⟩
                case n3 => unfold maxLen; omega
                case n4 => omega
                case n5 => omega
                intro vy y hown' hgrow _
                have hge := ownR_ge HO1.out
                have hbn : Below wo.heap.size wo y := (hbi.alloc hbi.size _).grown hgrow (by simp; omega) hge
                have hbl : Below B x y := ((Below.refl B x).alloc (by omega) _).grown hgrow (by simp; omega) (fun g hg => by have := hge g hg; omega)
                have hvals := (HV1.out.go (kept_lo (by omega) hbl)).append ((RowVals.one HOX.out).go (kept_lo (by omega) hbl))
                have HOW := Lib.hid hown'
                have HVL := Lib.hid hvals
                replace hbi := hbn
                replace hsi := hbi.size
                clear hgrow hown' hvals hge hbl hbn
                have HS := Lib.hid (S2.out HI.out hq)
                clear hq c0 c1 c2 c3 c4 c5 e0 e1 e2 e3 e4 e5
                go_wp2
                exact ⟨⟨k + 1, n + 1, false, _, _, by omega, by go_num, rfl, HS.out, by rw [List.length_append, ← HN.out]; rfl, by omega, hbi, hsi, HOW.out, HVL.out⟩, by simp [intOf]; omega⟩
        · have hke : k = O.length := by omega
          cases dn with
          | true =>
            have hM := insAt_end HI.out hke
            rw [← HST.out] at hM
            obtain ⟨alM, capM, hv, hcM, hoM⟩ := out_of_own (n := wo.heap.size) (by rw [← HN.out]; exact HO.out) HV.out
            subst hv
            have HM := Lib.hid hM
            have HOM := Lib.hid hoM
            have hbo : Below w.heap.size w wr := hb.trans (hbi.mono hsz)
            have hoM' : OutAt w.heap.size B wr alM M := by
              rcases hoM with h | ⟨g, off, e, h1, h2, h3⟩
              · exact .inl h
              · exact .inr ⟨g, off, e, by omega, h2, h3⟩
            have HOM' := Lib.hid hoM'
            clear hM hoM hoM' hke
            go_wp2
            exact ⟨⟨i + 1, M, alM, capM, by omega, by go_num, HM.out.symm, rfl, hcM, HOM'.out, hbo⟩, by simp [intOf]; omega⟩
          | false =>
            have hM := insAt_last HI.out hke
            rw [← HST.out] at hM
            have hge := ownR_ge HO.out
            have hMl : n = O.length := by have h := HI.out.2; have h2 := HN.out; simp at h; omega
            obtain ⟨c0, c1, c2, c3, c4, c5⟩ := HCR.out _ hbi
            have HRX := Lib.hid (HRE.out.below hbi)
            have hbw : b < wr.heap.size := Nat.lt_of_lt_of_le hbr hsi
            have HM := Lib.hid hM
            clear hM hke
            go_wp2_with (at_builtin; refine wpList_append_own _ rfl _ _ 27 rfl wo.heap.size 39 i0 _ 6 64 Tryz.underlying27 hi hz0 hz1 hz2'.out rfl (by decide) _ _ _ rfl (HO.out.alloc _) ⟨wr.heap.size, 0, none⟩ 1 1 [.int .u8 k', .int .u64 ta, .int .u64 tb, .int .u64 tc, .int .u64 td, .slice al' ks'.length cap'] rfl rfl ?c1 ?c2 ?c3 ?c4 ?c5 ?_)
            case c1 => exact six_cells wr _ _ _ _ _ _
            case c2 => intro u hu; simp at hu; rcases hu with rfl | rfl | rfl | rfl | rfl | rfl <;> rfl
            case c3 => unfold maxLen; omega
            case c4 => omega
            case c5 => simp; omega
            intro vy y hown' hgrow _
            have hbn : Below wo.heap.size wo y := (hbi.alloc hbi.size _).grown hgrow (by simp; omega) hge
            have hbl : Below B wr y := ((Below.refl B wr).alloc (by omega) _).grown hgrow (by simp; omega) (fun g hg => by have := hge g hg; omega)
            have hvals := (HV.out.go (kept_lo (by omega) hbl)).append ((RowVals.one HRX.out).go (kept_lo (by omega) hbl))
            obtain ⟨alM, capM, hv, hcM, hoM⟩ := out_of_own (n := wo.heap.size) (O := M ++ [r]) (by rw [List.length_append, ← HN.out, hMl, hOl]; exact hown') hvals
            subst hv
            have hbo : Below w.heap.size w y := hb.trans (hbn.mono hsz)
            have hoM' : OutAt w.heap.size B y alM (M ++ [r]) := by
              rcases hoM with h | ⟨g, off, e, h1, h2, h3⟩
              · exact .inl h
              · exact .inr ⟨g, off, e, by omega, h2, h3⟩
            have HOM' := Lib.hid hoM'
            clear hgrow hown' hvals hge hbl hbn hoM hoM' c0 c1 c2 c3 c4 c5
            go_wp2
            exact ⟨⟨i + 1, M ++ [r], alM, capM, by omega, by go_num, HM.out.symm, rfl, hcM, HOM'.out, hbo⟩, by simp [intOf]; omega⟩
    · have he : l.take i = l := List.take_of_length_le (by omega)
      rw [HEQ.out, he] at HOUT
      rw [HEQ.out, he] at hcapO
      have hle : O.length = (sortR l).length := by rw [HEQ.out, he]
      have HLE := Lib.hid hle
      have HOR := Lib.hid HOUT.out.row
      clear hle he
      go_wp2
      go_ret
      exact ⟨alO, capO, by rw [← HLE.out]; rfl, hcapO, HOR.out, hb⟩
open Go.RowKit
def altInv1 (B : Nat) (l : List Ex) (w : World) (v y : Value) (wr : World) : Prop := ∃ i : Nat, i ≤ l.length ∧ y = .int .i64 i ∧ OwnL (w.heap.size + 1) B ((l.take i).flatMap flatE) v wr ∧ wr.heap[w.heap.size]? = some zR ∧ Below w.heap.size w wr
def sizeL (l : List Ex) : Nat := (l.map Ex.size).sum
theorem flats_len : ∀ l : List Ex, (l.flatMap flatE).length ≤ sizeL l
  | [] => by simp [sizeL]
  | x :: l => by
    have h1 := flats_len l
    have h2 := flatE_len x
    simp [sizeL] at h1 ⊢
    omega
theorem sizeL_take (l : List Ex) (i : Nat) : sizeL (l.take i) ≤ sizeL l := by
  have h : sizeL l = sizeL (l.take i) + sizeL (l.drop i) := by
    conv => lhs; rw [← List.take_append_drop i l]
    simp [sizeL, -List.take_append_drop]
  omega
theorem sizeL_get {l : List Ex} {i : Nat} (h : i < l.length) : l[i].size ≤ sizeL l := by
  have h1 := sizeL_take l (i + 1)
  rw [List.take_succ_eq_append_getElem h] at h1
  unfold sizeL at h1 ⊢
  rw [List.map_append, List.sum_append] at h1
  simp only [List.map_cons, List.map_nil, List.sum_cons, List.sum_nil] at h1
  omega
theorem flats_take {l : List Ex} {i : Nat} (h : i < l.length) : (l.take (i + 1)).flatMap flatE = (l.take i).flatMap flatE ++ flatE l[i] := by
  rw [List.take_succ_eq_append_getElem h, List.flatMap_append]; simp
def altInv2 (A : List Ex) (W : World) (v y : Value) (wr : World) : Prop := ∃ k : Nat, k ≤ A.length ∧ y = .int .i64 k ∧ OwnL (W.heap.size + 1) W.heap.size (restE (A.take k)) v wr ∧ Box wr W.heap.size (setE (A.take k)) ∧ Below W.heap.size W wr
theorem setE_snoc (l : List Ex) (s : Ws) : setE (l ++ [.cls s]) = (setE l).join s := by
  unfold setE
  rw [List.filterMap_append, List.foldl_append]
  rfl
theorem setE_other {l : List Ex} {e : Ex} (h : e.isCls = false) : setE (l ++ [e]) = setE l := by
  unfold setE
  have h1 : [e].filterMap clsS = [] := by cases e <;> first | rfl | (simp [Ex.isCls] at h)
  rw [List.filterMap_append, h1, List.append_nil]
theorem restE_snoc (l : List Ex) (s : Ws) : restE (l ++ [.cls s]) = restE l := by simp [restE, Ex.isCls]
theorem restE_other {l : List Ex} {e : Ex} (h : e.isCls = false) : restE (l ++ [e]) = restE l ++ [e] := by simp [restE, h]
theorem OwnL.put4 {base B g : Nat} {l : List Ex} {x : Value} {w : World} (h : OwnL base B l x w) (hg : g < base) (hB : B ≤ g) (y0 y1 y2 y3 : Value) : OwnL base B l x ((((w.setCell ⟨g, 0, none⟩ y0).setCell ⟨g, 1, none⟩ y1).setCell ⟨g, 2, none⟩ y2).setCell ⟨g, 3, none⟩ y3) := by
  have hblk : ∀ b, b ≠ g → ((((w.setCell ⟨g, 0, none⟩ y0).setCell ⟨g, 1, none⟩ y1).setCell ⟨g, 2, none⟩ y2).setCell ⟨g, 3, none⟩ y3).heap[b]? = w.heap[b]? := fun b hb => by
    simp [World.setCell, Array.getElem?_modify, Ne.symm hb]
  have hsz : ((((w.setCell ⟨g, 0, none⟩ y0).setCell ⟨g, 1, none⟩ y1).setCell ⟨g, 2, none⟩ y2).setCell ⟨g, 3, none⟩ y3).heap.size = w.heap.size := by simp [World.setCell]
  obtain ⟨h0, xs, ⟨h1, h2⟩, h3⟩ := h
  refine ⟨by rw [hsz]; exact h0, xs, ⟨h1, ?_⟩, h3.go ⟨by rw [hsz]; exact Nat.le_refl _, fun b _ hb => ⟨hb, hblk b (fun e => by unfold Lo at hb; omega)⟩⟩⟩
  rcases h2 with h2 | ⟨g', cap, cur, rfl, hB', hg', hr⟩
  · exact .inl h2
  · exact .inr ⟨g', cap, cur, rfl, hB', (hblk g' (by omega)).trans hg', hr⟩
theorem bel_al2 (w : World) (o : Obj) : Below w.heap.size w (w.alloc o) := (Below.refl _ w).alloc (Nat.le_refl _) o
theorem rest_len (l : List Ex) : (restE l).length ≤ l.length := List.length_filter_le _ _
open Go.RowKit
set_option maxHeartbeats 8000000 in
set_option maxRecDepth 100000 in
theorem ref8alt (B : Nat) (l : List Ex) (al : Option Addr) (cap : Nat) (w : World) (hB : B ≤ w.heap.size) (hR : RowAt (Lo B) w al (l.map Ex.rx)) (hw : Ex.Wfs l) (hsz : sizeL l ≤ 900000) (hl : l.length ≤ 1000000) :
    Calls Tryz.prog 46 #[.slice al l.length cap] w (ExPost (fun _ => True) (altE l) w) := by
  have HR := Lib.hid hR
  clear hR
  go_enter Tryz.func46, Tryz.ntmps46
  go_wp2
  go_loopw [3, 11] (fun v y wr => altInv1 B l w v y wr) (fun _ y _ => l.length - (intOf y).toNat)
  case atStart =>
    exact ⟨0, Nat.zero_le _, rfl, own_none (Nat.le_refl _) (blk_at _ _ (by simp)) (by simp; omega), (Below.heap_alloc _ _ _ (by simp)).trans (blk_new w _), al2 w _ _⟩
  case round =>
    obtain ⟨i, hi, rfl, hown, hz, hb⟩ := hrel
    have HO := Lib.hid hown
    have HZ := Lib.hid hz
    have hlen1 : ((l.take i).flatMap flatE).length ≤ 900000 := Nat.le_trans (flats_len _) (Nat.le_trans (sizeL_take l i) hsz)
    have hszr := hb.size
    clear hown hz
    by_cases hlt : i < l.length
    · have hlt' : i < (l.map Ex.rx).length := by rw [List.length_map]; exact hlt
      obtain ⟨b, off, hab, hblt, hnode⟩ := HR.out.kid hlt'
      subst hab
      have hkid := NodeAt.below hb _ hblt hnode
      rw [List.getElem_map] at hkid
      have hsi := sizeL_get hlt
      have htk := flats_take hlt
      have hli := flatE_len l[i]
      have hlt2 : ((l.take (i + 1)).flatMap flatE).length ≤ 900000 := Nat.le_trans (flats_len _) (Nat.le_trans (sizeL_take l (i + 1)) hsz)
      rw [htk, List.length_append] at hlt2
      have KF := fun v (h : ReAt (Lo B) wr v l[i].rx) => ref8flat B l[i].size l[i] (Nat.le_refl _) (by omega) v wr (Nat.le_trans hB hszr) h
      have HTK := Lib.hid htk
      clear hnode htk
      generalize l[i] = e at *
      obtain ⟨k', ⟨ta, tb, tc, td⟩, ks', he⟩ := rx_form e
      rw [he] at hkid
      obtain ⟨al', cap', ⟨c0, c1, c2, c3, c4, c5⟩, hre⟩ := hkid.read
      simp only at c0 c1 c2 c3 c4 c5
      rw [← he] at hre
      have K := Lib.hid (KF _ hre)
      clear hkid hre KF he
      have q1 : (i : Int) < (l.length : Int) := by omega
      go_wp2_with fail
      refine K.out.mono ?_
      rintro x w1 ⟨v1, rfl, ⟨_, ys, o1, vv1⟩, hb1⟩
      obtain ⟨_, xs, o0, vv0⟩ := HO.out.below hb1
      have hbw := Lib.hid (hb.trans (hb1.mono hb.size))
      have hz1 := Lib.hid ((hb1.block _ (Array.getElem?_eq_some_iff.1 HZ.out).1).trans HZ.out)
      have O0 := Lib.hid o0
      have O1 := Lib.hid o1
      have V0 := Lib.hid vv0
      have V1 := Lib.hid vv1
      have hbs : w.heap.size + 1 ≤ w1.heap.size := (Array.getElem?_eq_some_iff.1 hz1.out).1
      clear o0 o1 vv0 vv1 hb1 c0 c1 c2 c3 c4 c5 K HO
      obtain ⟨nA, hnA⟩ : ∃ n, n = ((l.take i).flatMap flatE).length := ⟨_, rfl⟩
      obtain ⟨nE, hnE⟩ : ∃ n, n = (flatE e).length := ⟨_, rfl⟩
      rw [← hnA] at O0
      rw [← hnE] at O1
      have hsum : nA + nE ≤ 1000000 := by omega
      have HNA := Lib.hid hnA
      have HNE := Lib.hid hnE
      clear hnA hnE hlt2 hlen1 hli
      go_wp2_with (at_builtin; refine wpList_append_owns rfl _ _ rfl (w.heap.size + 1) _ nA xs rfl O0.out wr.heap.size v1 nE ys rfl O1.out V1.out.cells1 hsum hbs ?_)
      intro v' W' g1 g2
      have hge := ownR_ge O0.out
      have hO := own_append (l := (l.take i).flatMap flatE) (m := flatE e) (Nat.le_trans hB (Nat.le_succ _)) hbs HNA.out V0.out V1.out hge (by rw [List.length_map, ← HNE.out]; exact g1) g2
      have hbb := hbw.out.grown g2 hbw.out.size (fun g h => Nat.le_of_succ_le (hge g h))
      have hz2 := (g2.block w.heap.size hbs (fun e => by have := hge _ e.symm; omega)).trans hz1.out
      rw [← HTK.out] at hO
      have HO2 := Lib.hid hO
      have HB2 := Lib.hid hbb
      have HZ2 := Lib.hid hz2
      clear g1 g2 hge hO hbb hz2
      go_wp2
      exact ⟨⟨i + 1, by omega, by go_num, HO2.out, HZ2.out, HB2.out⟩, by simp [intOf]; omega⟩
    · have he : l.take i = l := List.take_of_length_le (by omega)
      rw [he] at HO
      clear he hlen1
      obtain ⟨alA, capA, hv3, hcapA, hrowA⟩ := HO.out.row
      rw [List.length_map] at hv3 hcapA
      subst hv3
      have hwA := flats_wf hw
      have hlA : (l.flatMap flatE).length ≤ 900000 := Nat.le_trans (flats_len l) hsz
      have HV := Lib.hid (show altE l = foldA (canE (gathE (l.flatMap flatE))) from rfl)
      have HRA := Lib.hid (show RowAt (Lo wr.heap.size) wr alA ((l.flatMap flatE).map Ex.rx) from hrowA.imp fun b hb _ => hb)
      have HBW := Lib.hid hb
      clear hrowA HO HR hw hsz hB
      generalize l.flatMap flatE = A at *
      obtain ⟨nA, hnA⟩ : ∃ n, n = A.length := ⟨_, rfl⟩
      rw [← hnA] at hcapA hlA ⊢
      have HNA := Lib.hid hnA
      clear hnA
      obtain ⟨W7, hW7⟩ : ∃ x, x = wr := ⟨_, rfl⟩
      subst hW7
      go_wp2
      clear hlt hi hl
      go_loopw [6, 26] (fun v y wr => altInv2 A W7 v y wr) (fun _ y _ => A.length - (intOf y).toNat)
      case atStart =>
        refine ⟨0, Nat.zero_le _, rfl, own_none (by simp) (blk_at _ _ (by simp)) (by simp; omega), ?_, al2 W7 _ _⟩
        exact (Box.zero W7).alloc _
      case round =>
        obtain ⟨k, hk, rfl, hown, hbox, hb2⟩ := hrel
        have HO := Lib.hid hown
        have HX := Lib.hid hbox
        have hlr : (restE (A.take k)).length ≤ 900000 := by
          have h1 := rest_len (A.take k)
          have h2 := List.length_take_le k A
          have := HNA.out
          omega
        have hs2 := hb2.size
        clear hown hbox
        by_cases hlt : k < A.length
        · have hlt' : k < (A.map Ex.rx).length := by rw [List.length_map]; exact hlt
          obtain ⟨bA, offA, hab, hblt, hnode⟩ := HRA.out.kid hlt'
          subst hab
          rw [List.getElem_map] at hnode
          have hwe := hwA A[k] (List.getElem_mem hlt)
          have htk : A.take (k + 1) = A.take k ++ [A[k]] := List.take_succ_eq_append_getElem hlt
          have hsok : (setE (A.take k)).Ok := setE_ok fun x hx => hwA x (List.mem_of_mem_take hx)
          have q1 : (k : Int) < (nA : Int) := by have := HNA.out; omega
          have q0 : k < nA := by have := HNA.out; omega
          generalize A[k] = e at *
          obtain ⟨k', ⟨ta, tb, tc, td⟩, ks', he⟩ := rx_form e
          have kc := kind_cls he
          rw [he] at hnode
          obtain ⟨al', cap', ⟨c0w, c1w, c2w, c3w, c4w, c5w⟩, hre⟩ := hnode.read
          simp only at c0w c1w c2w c3w c4w c5w
          rw [← he] at hre
          have HC := Lib.hid (show W7.cell? ⟨bA, offA + k * 6, none⟩ = some (.int .u8 k') ∧ W7.cell? ⟨bA, offA + k * 6 + 1, none⟩ = some (.int .u64 ta) ∧ W7.cell? ⟨bA, offA + k * 6 + 2, none⟩ = some (.int .u64 tb) ∧ W7.cell? ⟨bA, offA + k * 6 + 3, none⟩ = some (.int .u64 tc) ∧ W7.cell? ⟨bA, offA + k * 6 + 4, none⟩ = some (.int .u64 td) ∧ W7.cell? ⟨bA, offA + k * 6 + 5, none⟩ = some (.slice al' ks'.length cap') from ⟨c0w, c1w, c2w, c3w, c4w, c5w⟩)
          have HRE := Lib.hid hre
          have HTK := Lib.hid htk
          clear hnode hre htk c0w c1w c2w c3w c4w c5w hlt'
          obtain ⟨c0, c1, c2, c3, c4, c5⟩ := six_keep hblt HC.out hb2
          cases qc : e.isCls with
          | true =>
            rw [qc] at kc
            cases e with
            | empty => cases qc
            | eps => cases qc
            | seq a b => cases qc
            | alt a b => cases qc
            | star a => cases qc
            | cls s =>
            simp only [Ex.rx] at he
            injection he with e1 e2 e3
            subst e1
            subst e2
            have HN1 := Lib.hid (show restE (A.take (k + 1)) = restE (A.take k) from by rw [HTK.out, restE_snoc])
            have HN2 := Lib.hid (show setE (A.take (k + 1)) = (setE (A.take k)).join ⟨ta, tb, tc, td⟩ from by rw [HTK.out, setE_snoc])
            have hws : (Ws.mk ta tb tc td).Ok := hwe.1
            have KJ0 := Lib.hid fun W => refJoin_any (setE (A.take k)) ⟨ta, tb, tc, td⟩ W hsok hws
            generalize (setE (A.take k)).join ⟨ta, tb, tc, td⟩ = J at *
            generalize setE (A.take k) = Z at *
            obtain ⟨j0, j1, j2, j3⟩ := J
            obtain ⟨z0, z1, z2, z3⟩ := Z
            unfold Ws.v at KJ0
            simp only at KJ0
            go_wp2_with fail
            have CN := Lib.hid fun x (hx : Below wr.heap.size wr x) => six_keep hblt HC.out (hb2.trans (hx.mono hs2))
            have CS := Lib.hid fun x (hx : Below wr.heap.size wr x) => (HX.out.below hx HX.out.lt).cells
            simp only at CS
            have KJ := Lib.hid fun x => KJ0.out x
            refine wp_region_orderT 7 (fun i => ([SP.eq (.agg #[.int .u64 z0, .int .u64 z1, .int .u64 z2, .int .u64 z3]), SP.eq (.slice (some ⟨bA, offA, none⟩) nA capA), SP.eq (.int .i64 k), SP.eq (.pointer (some ⟨bA, offA + k * 6, none⟩)), SP.eq (.pointer (some ⟨bA, offA + k * 6 + 1, none⟩)), SP.eq (.agg #[.int .u64 ta, .int .u64 tb, .int .u64 tc, .int .u64 td]), SP.eq (.agg #[.int .u64 j0, .int .u64 j1, .int .u64 j2, .int .u64 j3])] : List SP).getD i SP.free) (fun _ => false) (fun _ _ _ h => by cases h) (by kernel_rfl) (by kernel_rfl) ⟨?_, ?_, ?_, ?_, ?_, ?_, ?_, trivial⟩ ?_
            · intro a x K out get hb hK
              rw [if_pos (wanted_none rfl)]
              have o5 : a.tmps[5]? = some (.pointer (some ⟨W7.heap.size, 0, none⟩)) := out 5 (by kernel_rfl)
              obtain ⟨c0, c1, c2, c3⟩ := CS.out x hb
              clear out get
              go_simp
              exact hK _ _ rfl (Below.refl _ _) (fun h => by cases h)
            · intro a x K out get hb hK
              rw [if_pos (wanted_none rfl)]
              have o3 : a.tmps[3]? = some (.slice (some ⟨bA, offA, none⟩) nA capA) := out 3 (by kernel_rfl)
              clear out get
              go_simp
              exact hK _ _ rfl (Below.refl _ _) (fun h => by cases h)
            · intro a x K out get hb hK
              rw [if_pos (wanted_none rfl)]
              have o7 : a.tmps[7]? = some (.int .i64 k) := out 7 (by kernel_rfl)
              clear out get
              go_simp
              exact hK _ _ rfl (Below.refl _ _) (fun h => by cases h)
            · intro a x K out get hb hK
              rw [if_pos (wanted_none rfl)]
              obtain ⟨y36, hy36, rfl⟩ := get 1 _ _ rfl rfl (by kernel_rfl)
              obtain ⟨y37, hy37, rfl⟩ := get 2 _ _ rfl rfl (by kernel_rfl)
              clear out get
              go_simp
              exact hK _ _ rfl (Below.refl _ _) (fun h => by cases h)
            · intro a x K out get hb hK
              rw [if_pos (wanted_none rfl)]
              obtain ⟨y38, hy38, rfl⟩ := get 3 _ _ rfl rfl (by kernel_rfl)
              clear out get
              go_simp
              exact hK _ _ rfl (Below.refl _ _) (fun h => by cases h)
            · intro a x K out get hb hK
              rw [if_pos (wanted_none rfl)]
              obtain ⟨y39, hy39, rfl⟩ := get 4 _ _ rfl rfl (by kernel_rfl)
              clear out get
              obtain ⟨c0, c1, c2, c3, c4, c5⟩ := CN.out x hb
              go_simp
              exact hK _ _ rfl (Below.refl _ _) (fun h => by cases h)
            · intro a x K out get hb hK
              rw [if_pos (wanted_none rfl)]
              obtain ⟨y35, hy35, rfl⟩ := get 0 _ _ rfl rfl (by kernel_rfl)
              obtain ⟨y40, hy40, rfl⟩ := get 5 _ _ rfl rfl (by kernel_rfl)
              clear out get
              go_simp
              refine (KJ.out x).mono ?_
              rintro e w2 ⟨rfl, hb2⟩
              exact hK _ _ rfl hb2 (fun h => by cases h)
            refine ao_finT (isD := fun s => decide (35 ≤ s) && decide (s ≤ 41)) (by kernel_rfl) ?_
            intro f x hv hne hb
            clear hne
            have f41 : f 41 = .agg #[.int .u64 j0, .int .u64 j1, .int .u64 j2, .int .u64 j3] := hv 6 _ _ (by decide) rfl rfl
            have HX3 := Lib.hid (HX.out.below hb HX.out.lt)
            have HO3 := Lib.hid (HO.out.below hb)
            have HB3 := Lib.hid (hb2.trans (hb.mono hs2))
            obtain ⟨⟨d0, d1, d2, d3⟩, g0, g1, g2, g3⟩ := HX3.out.all
            simp only at d0 d1 d2 d3
            clear hv hb c0 c1 c2 c3 c4 c5
            simp only [frm, List.drop_succ_cons, List.drop_zero]
            simp
            rw [f41]
            generalize f 35 = u135 at *
            generalize f 36 = u136 at *
            generalize f 37 = u137 at *
            generalize f 38 = u138 at *
            generalize f 39 = u139 at *
            generalize f 40 = u140 at *
            clear f41 f
            go_wp2
            refine ⟨⟨k + 1, by omega, by go_num, ?_, ?_, below_put HB3.out (Nat.le_refl _) _ _ _ _⟩, by simp [intOf]; omega⟩
            · rw [HN1.out]
              exact HO3.out.put4 (Nat.lt_succ_self _) (Nat.le_refl _) _ _ _ _
            · rw [HN2.out]
              exact HX3.out.put4 j0 j1 j2 j3
          | false =>
            rw [qc] at kc
            have HN1 := Lib.hid (show restE (A.take (k + 1)) = restE (A.take k) ++ [e] from by rw [HTK.out, restE_other qc])
            have HN2 := Lib.hid (show setE (A.take (k + 1)) = setE (A.take k) from by rw [HTK.out, setE_other qc])
            have hal := bel_al2 wr (.cells #[.int .u8 k', .int .u64 ta, .int .u64 tb, .int .u64 tc, .int .u64 td, .slice al' ks'.length cap'] 39)
            have HO1 := HO.out.below hal
            have HX1 := Lib.hid (HX.out.alloc (.cells #[.int .u8 k', .int .u64 ta, .int .u64 tb, .int .u64 tc, .int .u64 td, .slice al' ks'.length cap'] 39))
            have HB1 := Lib.hid (hb2.trans (hal.mono hs2))
            have HS := own_one (w := wr.alloc (.cells #[.int .u8 k', .int .u64 ta, .int .u64 tb, .int .u64 tc, .int .u64 td, .slice al' ks'.length cap'] 39)) (B := wr.heap.size) (g := wr.heap.size) (B' := W7.heap.size) (Nat.le_refl _) (blk_new wr _) HB1.out.size (HRE.out.below HB1.out)
            obtain ⟨_, ys, o1, vv1⟩ := HS
            obtain ⟨_, xs, o0, vv0⟩ := HO1
            obtain ⟨nR, hnR⟩ : ∃ n, n = (restE (A.take k)).length := ⟨_, rfl⟩
            rw [← hnR] at o0 hlr
            have O0 := Lib.hid o0
            have O1 := Lib.hid o1
            have V0 := Lib.hid vv0
            have V1 := Lib.hid vv1
            have HNR := Lib.hid hnR
            have hbs : W7.heap.size + 1 ≤ (wr.alloc (.cells #[.int .u8 k', .int .u64 ta, .int .u64 tb, .int .u64 tc, .int .u64 td, .slice al' ks'.length cap'] 39)).heap.size := HX1.out.lt
            clear o0 o1 vv0 vv1 hal hnR
            go_wp2_with (at_builtin; refine wpList_append_owns rfl _ _ rfl (W7.heap.size + 1) _ nR xs rfl O0.out wr.heap.size _ 1 ys rfl O1.out V1.out.cells1 (by omega) hbs ?_)
            intro v' W' g1 g2
            have hge := ownR_ge O0.out
            have hO := own_append (l := restE (A.take k)) (m := [e]) (Nat.le_succ _) hbs HNR.out V0.out V1.out hge (by rw [List.length_map]; exact g1) g2
            have hbb := HB1.out.grown g2 HB1.out.size (fun g h => Nat.le_of_succ_le (hge g h))
            have hx2 : Box W' W7.heap.size (setE (A.take k)) := (g2.block W7.heap.size hbs (fun e => by have := hge _ e.symm; omega)).trans HX1.out
            rw [← HN1.out] at hO
            rw [← HN2.out] at hx2
            have HO2 := Lib.hid hO
            have HB2 := Lib.hid hbb
            have HX2 := Lib.hid hx2
            clear g1 g2 hge hO hbb hx2 c0 c1 c2 c3 c4 c5
            go_wp2
            exact ⟨⟨k + 1, by omega, by go_num, HO2.out, HX2.out, HB2.out⟩, by simp [intOf]; omega⟩
        · have he : A.take k = A := List.take_of_length_le (by omega)
          rw [he] at HO HX hlr
          clear he
          obtain ⟨wS, hwS⟩ : ∃ x, x = wr := ⟨_, rfl⟩
          have HZw := Lib.hid ((hb2.block _ (Array.getElem?_eq_some_iff.1 HZ.out).1).trans HZ.out)
          have HBw := Lib.hid (HBW.out.trans (hb2.mono HBW.out.size))
          by_cases hsn : setE A = Ws.nil
          · have HG := Lib.hid (show gathE A = restE A from by unfold gathE; rw [if_pos hsn])
            rw [HG.out] at HV
            rw [hsn] at HX
            obtain ⟨⟨d0, d1, d2, d3⟩, -⟩ := HX.out.all
            simp only [Ws.nil] at d0 d1 d2 d3
            rw [show (((0 : Nat) : Int)) = 0 from rfl] at d0 d1 d2 d3
            have hq := eqW_yes Ws.nil
            rw [nil_v] at hq
            subst hwS
            have hkA : ¬ k < nA := by have := HNA.out; omega
            obtain ⟨alS, capS, hv6, hcapS, hrowS⟩ := HO.out.row
            subst hv6
            have hGl : ((restE A).map Ex.rx).length ≤ 1000000 := by rw [List.length_map]; exact (Nat.le_trans hlr (by decide))
            have KS := Lib.hid (refSort_any wS.heap.size ((restE A).map Ex.rx) alS capS wS hGl (Nat.le_refl _) (hrowS.imp fun b hb _ => hb))
            have HSL := Lib.hid (sortR_length ((restE A).map Ex.rx))
            have HCA := Lib.hid (canE_map (restE A))
            have HFO := Lib.hid (foldA_rx (canE (restE A)))
            generalize sortR ((restE A).map Ex.rx) = S1 at *
            obtain ⟨nG, hnG⟩ : ∃ n, n = ((restE A).map Ex.rx).length := ⟨_, rfl⟩
            rw [← hnG] at KS HSL hGl hcapS ⊢
            have hs1 : S1.length ≤ 1000000 := by rw [HSL.out]; exact hGl
            have hS2 : (onceR S1).length ≤ 1000000 := by
              have := onceFrom_length S1 []
              unfold onceR
              simp at this
              omega
            have HSO := Lib.hid hS2
            clear hrowS hnG
            go_wp2_with fail
            refine KS.out.mono ?_
            rintro x w1 ⟨al1, cp1, rfl, hcp1, hr1, hb1⟩
            have KO := Lib.hid (refOnce_any w1.heap.size S1 al1 cp1 w1 hs1 (Nat.le_refl _) (hr1.imp fun b hb _ => hb))
            have HB1 := Lib.hid (HBw.out.trans (hb1.mono HBw.out.size))
            have HZ1 := Lib.hid ((hb1.block _ (Array.getElem?_eq_some_iff.1 HZw.out).1).trans HZw.out)
            clear hr1 hb1
            generalize onceR S1 = S2 at *
            go_wp2_with fail
            refine KO.out.mono ?_
            rintro x w2 ⟨al2', cp2, rfl, hcp2, hr2, hb2'⟩
            have KF := Lib.hid (refFold_any 5 1 (.inr ⟨rfl, rfl⟩) S2 (fun _ => True) al2' cp2 w2 (by have := HSO.out; omega) hcp2 (hr2.imp fun _ _ _ => trivial))
            rw [show (((5 : Nat) : Int)) = 5 from rfl] at KF
            have HB2 := Lib.hid (HB1.out.trans (hb2'.mono HB1.out.size))
            have HZ2 := Lib.hid ((hb2'.block _ (Array.getElem?_eq_some_iff.1 HZ1.out).1).trans HZ1.out)
            clear hr2 hb2'
            go_wp2_with fail
            refine KF.out.mono ?_
            rintro x w3 ⟨v3, rfl, hv3, hb3⟩
            obtain ⟨p0, p1, p2, p3, p4, pl, pn, pc, rfl⟩ := cells_re hv3
            have HB3 := Lib.hid (HB2.out.trans (hb3.mono HB2.out.size))
            have HZ3 := Lib.hid ((hb3.block _ (Array.getElem?_eq_some_iff.1 HZ2.out).1).trans HZ2.out)
            have HV3 := Lib.hid (show ReAt (okN (fun _ => True) w.heap.size) w3 (.agg #[.int .u8 p0, .int .u64 p1, .int .u64 p2, .int .u64 p3, .int .u64 p4, .slice pl pn pc]) (foldA (canE (restE A))).rx from by
              rw [HFO.out, HCA.out]
              exact hv3.imp fun _ _ _ => Or.inl trivial)
            clear hv3 hb3
            obtain ⟨f0, f1, f2, f3, f4, f5, g0, g1, g2, g3, g4, g5⟩ := cellsR HZ3.out
            go_wp2
            rw [HV.out]
            exact ret_ex (e := foldA (canE (restE A))) HZ3.out HV3.out HB3.out (Nat.le_refl _) Tryz.results46 rfl rfl
          · have HG := Lib.hid (show gathE A = restE A ++ [.cls (setE A)] from by unfold gathE; rw [if_neg hsn])
            rw [HG.out] at HV
            have hsok := setE_ok hwA
            have KO0 := Lib.hid fun W => refOfR_any (setE A) W hsok
            have hro : ofR (setE A) = (Ex.cls (setE A)).rx := by
              unfold ofR
              rw [if_neg (fun h => hsn (sameW_iff.1 h))]
              rfl
            rw [hro] at KO0
            have hq := eqW_no hsn
            rw [nil_v] at hq
            have HQ := Lib.hid hsn
            clear hsn hro hsok HG
            generalize setE A = Z at *
            obtain ⟨z0, z1, z2, z3⟩ := Z
            unfold Ws.v at KO0 hq
            simp only at KO0 hq
            obtain ⟨⟨d0, d1, d2, d3⟩, -⟩ := HX.out.all
            simp only at d0 d1 d2 d3
            subst hwS
            have hkA : ¬ k < nA := by have := HNA.out; omega
            go_wp2_with fail
            refine (KO0.out _).mono ?_
            rintro x w9 ⟨v9, rfl, hv9, hb9⟩
            obtain ⟨p0, p1, p2, p3, p4, pl, pn, pc, rfl⟩ := cells_re hv9
            have hal9 := hb9.trans ((bel_al2 w9 (.cells #[.int .u8 p0, .int .u64 p1, .int .u64 p2, .int .u64 p3, .int .u64 p4, .slice pl pn pc] 39)).mono hb9.size)
            have HO9 := HO.out.below hal9
            have HZ9 := Lib.hid ((hal9.block _ (Array.getElem?_eq_some_iff.1 HZw.out).1).trans HZw.out)
            have HB9 := Lib.hid (HBw.out.trans (hal9.mono HBw.out.size))
            have HB7 := Lib.hid (hb2.trans (hal9.mono hb2.size))
            have HS := own_one (w := w9.alloc (.cells #[.int .u8 p0, .int .u64 p1, .int .u64 p2, .int .u64 p3, .int .u64 p4, .slice pl pn pc] 39)) (B := w9.heap.size) (g := w9.heap.size) (B' := W7.heap.size) (e := .cls ⟨z0, z1, z2, z3⟩) (Nat.le_refl _) (blk_new w9 _) HB7.out.size (leaf_any _ hv9)
            obtain ⟨_, ys, o1, vv1⟩ := HS
            obtain ⟨_, xs, o0, vv0⟩ := HO9
            obtain ⟨nR, hnR⟩ : ∃ n, n = (restE A).length := ⟨_, rfl⟩
            rw [← hnR] at o0 hlr
            have O0 := Lib.hid o0
            have O1 := Lib.hid o1
            have V0 := Lib.hid vv0
            have V1 := Lib.hid vv1
            have HNR := Lib.hid hnR
            have hbs : W7.heap.size + 1 ≤ (w9.alloc (.cells #[.int .u8 p0, .int .u64 p1, .int .u64 p2, .int .u64 p3, .int .u64 p4, .slice pl pn pc] 39)).heap.size := by
              have h1 := HX.out.lt
              have h2 := hal9.size
              omega
            clear o0 o1 vv0 vv1 hal9 hnR hv9 hb9 d0 d1 d2 d3
            go_wp2_with (at_builtin; refine wpList_append_owns rfl _ _ rfl (W7.heap.size + 1) _ nR xs rfl O0.out w9.heap.size _ 1 ys rfl O1.out V1.out.cells1 (by omega) hbs ?_)
            intro v' wS g1 g2
            have hge := ownR_ge O0.out
            have hO := own_append (l := restE A) (m := [.cls ⟨z0, z1, z2, z3⟩]) (Nat.le_succ _) hbs HNR.out V0.out V1.out hge (by rw [List.length_map]; exact g1) g2
            have hbw7 := HBW.out.size
            have hbb := HB9.out.grown g2 HB9.out.size (fun g h => by have := hge g h; omega)
            have hzz := (g2.block w.heap.size (Nat.lt_of_lt_of_le (Array.getElem?_eq_some_iff.1 HZ9.out).1 (Nat.le_refl _)) (fun e => by have := hge _ e.symm; omega)).trans HZ9.out
            have HO2 := Lib.hid hO
            have HBS := Lib.hid hbb
            have HZS := Lib.hid hzz
            have hll : (restE A ++ [Ex.cls ⟨z0, z1, z2, z3⟩]).length ≤ 1000000 := by rw [List.length_append, ← HNR.out]; simp; omega
            clear g1 g2 hge hO hbb hzz
            generalize restE A ++ [Ex.cls ⟨z0, z1, z2, z3⟩] = G at *
            obtain ⟨alS, capS, hv6, hcapS, hrowS⟩ := HO2.out.row
            subst hv6
            have hGl : (G.map Ex.rx).length ≤ 1000000 := by rw [List.length_map]; exact hll
            have KS := Lib.hid (refSort_any wS.heap.size (G.map Ex.rx) alS capS wS hGl (Nat.le_refl _) (hrowS.imp fun b hb _ => hb))
            have HSL := Lib.hid (sortR_length (G.map Ex.rx))
            have HCA := Lib.hid (canE_map G)
            have HFO := Lib.hid (foldA_rx (canE G))
            generalize sortR (G.map Ex.rx) = S1 at *
            obtain ⟨nG, hnG⟩ : ∃ n, n = (G.map Ex.rx).length := ⟨_, rfl⟩
            rw [← hnG] at KS HSL hGl hcapS ⊢
            have hs1 : S1.length ≤ 1000000 := by rw [HSL.out]; exact hGl
            have hS2 : (onceR S1).length ≤ 1000000 := by
              have := onceFrom_length S1 []
              unfold onceR
              simp at this
              omega
            have HSO := Lib.hid hS2
            clear hrowS hnG
            go_wp2_with fail
            refine KS.out.mono ?_
            rintro x w1 ⟨al1, cp1, rfl, hcp1, hr1, hb1⟩
            have KO := Lib.hid (refOnce_any w1.heap.size S1 al1 cp1 w1 hs1 (Nat.le_refl _) (hr1.imp fun b hb _ => hb))
            have HB1 := Lib.hid (HBS.out.trans (hb1.mono HBS.out.size))
            have HZ1 := Lib.hid ((hb1.block _ (Array.getElem?_eq_some_iff.1 HZS.out).1).trans HZS.out)
            clear hr1 hb1
            generalize onceR S1 = S2 at *
            go_wp2_with fail
            refine KO.out.mono ?_
            rintro x w2 ⟨al2', cp2, rfl, hcp2, hr2, hb2'⟩
            have KF := Lib.hid (refFold_any 5 1 (.inr ⟨rfl, rfl⟩) S2 (fun _ => True) al2' cp2 w2 (by have := HSO.out; omega) hcp2 (hr2.imp fun _ _ _ => trivial))
            rw [show (((5 : Nat) : Int)) = 5 from rfl] at KF
            have HB2 := Lib.hid (HB1.out.trans (hb2'.mono HB1.out.size))
            have HZ2 := Lib.hid ((hb2'.block _ (Array.getElem?_eq_some_iff.1 HZ1.out).1).trans HZ1.out)
            clear hr2 hb2'
            go_wp2_with fail
            refine KF.out.mono ?_
            rintro x w3 ⟨v3, rfl, hv3, hb3⟩
            obtain ⟨p0, p1, p2, p3, p4, pl, pn, pc, rfl⟩ := cells_re hv3
            have HB3 := Lib.hid (HB2.out.trans (hb3.mono HB2.out.size))
            have HZ3 := Lib.hid ((hb3.block _ (Array.getElem?_eq_some_iff.1 HZ2.out).1).trans HZ2.out)
            have HV3 := Lib.hid (show ReAt (okN (fun _ => True) w.heap.size) w3 (.agg #[.int .u8 p0, .int .u64 p1, .int .u64 p2, .int .u64 p3, .int .u64 p4, .slice pl pn pc]) (foldA (canE G)).rx from by
              rw [HFO.out, HCA.out]
              exact hv3.imp fun _ _ _ => Or.inl trivial)
            clear hv3 hb3
            obtain ⟨f0, f1, f2, f3, f4, f5, g0, g1, g2, g3, g4, g5⟩ := cellsR HZ3.out
            go_wp2
            rw [HV.out]
            exact ret_ex (e := foldA (canE G)) HZ3.out HV3.out HB3.out (Nat.le_refl _) Tryz.results46 rfl rfl
open Go.RowKit
set_option maxHeartbeats 8000000 in
set_option maxRecDepth 100000 in
theorem ref8of (N : Nat) : ∀ (e : Ex), e.size ≤ N → e.Wf → e.size ≤ 800000 → ∀ (ok : Nat → Prop) (v : Value) (w : World), ReAt ok w v e.rx →
    Calls Tryz.prog 30 #[v] w (ExPost (fun _ => True) (nfE e) w) := by
  induction N with
  | zero => intro e hN; have := e.size_pos; omega
  | succ N ih =>
    intro e hN we hbig ok v w h
    obtain ⟨ka, ⟨sa, sb, sc, sd⟩, ksa, hsa⟩ := rx_form e
    have HA := Lib.hid h
    rw [hsa] at h
    obtain ⟨_, _, al, cap, rfl, hcap, _, hrow⟩ := h
    simp only at HA ⊢
    have k4 := kind_seq hsa
    have k5 := kind_alt hsa
    have k6 := kind_star hsa
    cases e with
    | empty =>
      simp only [Ex.isSeq, Ex.isAlt, Ex.isStar] at k4 k5 k6
      clear hrow ih hN hbig hsa we
      go_enter Tryz.func30, Tryz.ntmps30
      go_wp2
      exact ret_re (blk_at _ _ (by simp)) Tryz.results30 rfl rfl ⟨_, rfl, (HA.out.below (al2 w _ _)).imp fun _ _ _ => Or.inl trivial, al2 w _ _⟩
    | eps =>
      simp only [Ex.isSeq, Ex.isAlt, Ex.isStar] at k4 k5 k6
      clear hrow ih hN hbig hsa we
      go_enter Tryz.func30, Tryz.ntmps30
      go_wp2
      exact ret_re (blk_at _ _ (by simp)) Tryz.results30 rfl rfl ⟨_, rfl, (HA.out.below (al2 w _ _)).imp fun _ _ _ => Or.inl trivial, al2 w _ _⟩
    | cls s =>
      simp only [Ex.isSeq, Ex.isAlt, Ex.isStar] at k4 k5 k6
      clear hrow ih hN hbig hsa we
      go_enter Tryz.func30, Tryz.ntmps30
      go_wp2
      exact ret_re (blk_at _ _ (by simp)) Tryz.results30 rfl rfl ⟨_, rfl, (HA.out.below (al2 w _ _)).imp fun _ _ _ => Or.inl trivial, al2 w _ _⟩
    | star c =>
      show Calls _ _ _ w (ExPost (fun _ => True) (starE (nfE c)) w)
      simp only [Ex.rx] at hsa
      injection hsa with e1 e2 e3
      subst e1
      subst e3
      obtain ⟨bk, off, rfl, hlt, hn0⟩ := hrow.kid (i := 0) (by simp)
      simp only [List.getElem_cons_zero, Nat.zero_mul, Nat.add_zero] at hn0
      have hcap1 : 1 ≤ cap := by simpa using hcap
      obtain ⟨kc, ⟨ca, cb, cc, cd⟩, ksc, hsc⟩ := rx_form c
      rw [hsc] at hn0
      simp only [Ex.size] at hN hbig
      have IC := Lib.hid (fun v W h => ih c (by omega) we (by omega) ok v W h)
      have KS := Lib.hid fun x v (h : ReAt (okN (fun _ => True) 0) x v (nfE c).rx) => ref8star (nfE c) (okN (fun _ => True) 0) v x h
      have HN0 := Lib.hid hn0
      have hlen : [c.rx].length = 1 := rfl
      rw [hlen, show (((6 : Nat) : Int)) = 6 from rfl]
      have B := Lib.hid (Bn1.new w (.cells #[.int .u8 6, .int .u64 sa, .int .u64 sb, .int .u64 sc, .int .u64 sd, .slice (some ⟨bk, off, none⟩) 1 cap] 39))
      obtain ⟨al0, cap0, ⟨i0, i1, i2, i3, i4, i5⟩, hrc⟩ := (NodeAt.below B.out.2.2 _ hlt hn0).read
      simp only at i0 i1 i2 i3 i4 i5
      rw [← hsc] at hrc
      have K1 := Lib.hid (IC.out _ _ hrc)
      clear k4 k5 k6 hlen hrow ih hN hsc HA hn0 hrc hcap e2 IC HN0
      go_enter Tryz.func30, Tryz.ntmps30
      go_wp2_with fail
      refine K1.out.mono ?_
      rintro x w1 ⟨v1, rfl, hv1, hb1⟩
      obtain ⟨p0, p1, p2, p3, p4, pl, pn, pc, rfl⟩ := cells_re hv1
      have B1 := Lib.hid (B.out.go hb1)
      have K2 := Lib.hid (KS.out w1 _ (hv1.imp fun _ _ _ => Or.inl trivial))
      clear hv1 hb1 i0 i1 i2 i3 i4 i5 B K1
      go_wp2_with fail
      refine K2.out.mono ?_
      rintro x w2 ⟨v2, rfl, hv2, hb2⟩
      obtain ⟨q0, q1, q2, q3, q4, ql, qn, qc, rfl⟩ := cells_re hv2
      have B2 := Lib.hid (B1.out.go hb2)
      have HV := Lib.hid (show ReAt (okN (fun _ => True) w.heap.size) w2 (.agg #[.int .u8 q0, .int .u64 q1, .int .u64 q2, .int .u64 q3, .int .u64 q4, .slice ql qn qc]) (starE (nfE c)).rx from hv2.imp fun _ _ _ => Or.inl trivial)
      clear hv2 hb2 B1
      obtain ⟨c0, c1, c2, c3, c4, c5, f0, f1, f2, f3, f4, f5⟩ := cellsR B2.out.2.1
      go_wp2
      exact ret_ex (e := starE (nfE c)) B2.out.2.1 HV.out B2.out.2.2 (by omega) Tryz.results30 rfl rfl
    | seq c d =>
      show Calls _ _ _ w (ExPost (fun _ => True) (seqE (nfE c) (nfE d)) w)
      simp only [Ex.rx] at hsa
      injection hsa with e1 e2 e3
      subst e1
      subst e3
      obtain ⟨bk, off, rfl, hlt, hn0⟩ := hrow.kid (i := 0) (by simp)
      simp only [List.getElem_cons_zero, Nat.zero_mul, Nat.add_zero] at hn0
      obtain ⟨bk', off', e', hlt', hn1⟩ := hrow.kid (i := 1) (by simp)
      simp at e'
      obtain ⟨rfl, rfl⟩ := e'
      simp only [List.getElem_cons_zero, List.getElem_cons_succ, Nat.one_mul] at hn1
      have hcap2 : 2 ≤ cap := by simpa using hcap
      obtain ⟨kc, ⟨ca, cb, cc, cd⟩, ksc, hsc⟩ := rx_form c
      obtain ⟨kd, ⟨da, db, dc, dd⟩, ksd, hsd⟩ := rx_form d
      rw [hsc] at hn0
      rw [hsd] at hn1
      obtain ⟨al0, cap0, ⟨i0, i1, i2, i3, i4, i5⟩, hrc⟩ := hn0.read
      obtain ⟨al1, cap1, ⟨j0, j1, j2, j3, j4, j5⟩, hrd⟩ := hn1.read
      simp only at i0 i1 i2 i3 i4 i5 j0 j1 j2 j3 j4 j5
      rw [← hsc] at hrc
      rw [← hsd] at hrd
      simp only [Ex.size] at hN hbig
      have zc := nf_size c
      have zd := nf_size d
      have KC0 := Lib.hid fun W (hb : Below w.heap.size w W) => ih c (by omega) we.1 (by omega) ok _ W (hrc.below hb)
      have KD0 := Lib.hid fun W (hb : Below w.heap.size w W) => ih d (by omega) we.2 (by omega) ok _ W (hrd.below hb)
      have KS := Lib.hid fun x v u (h : ReAt (fun _ => True) x v (nfE c).rx) (h' : ReAt (fun _ => True) x u (nfE d).rx) => ref8seq (nfE c).size (nfE c) (Nat.le_refl _) (fun _ => True) (nfE d) v u x h h'
      have I6 := Lib.hid (show w.cell? ⟨bk, off, none⟩ = some (.int .u8 kc) ∧ w.cell? ⟨bk, off + 1, none⟩ = some (.int .u64 ca) ∧ w.cell? ⟨bk, off + 2, none⟩ = some (.int .u64 cb) ∧ w.cell? ⟨bk, off + 3, none⟩ = some (.int .u64 cc) ∧ w.cell? ⟨bk, off + 4, none⟩ = some (.int .u64 cd) ∧ w.cell? ⟨bk, off + 5, none⟩ = some (.slice al0 ksc.length cap0) from ⟨i0, i1, i2, i3, i4, i5⟩)
      have J6 := Lib.hid (show w.cell? ⟨bk, off + 6, none⟩ = some (.int .u8 kd) ∧ w.cell? ⟨bk, off + 6 + 1, none⟩ = some (.int .u64 da) ∧ w.cell? ⟨bk, off + 6 + 2, none⟩ = some (.int .u64 db) ∧ w.cell? ⟨bk, off + 6 + 3, none⟩ = some (.int .u64 dc) ∧ w.cell? ⟨bk, off + 6 + 4, none⟩ = some (.int .u64 dd) ∧ w.cell? ⟨bk, off + 6 + 5, none⟩ = some (.slice al1 ksd.length cap1) from ⟨j0, j1, j2, j3, j4, j5⟩)
      have hlen : [c.rx, d.rx].length = 2 := rfl
      rw [hlen, show (((4 : Nat) : Int)) = 4 from rfl]
      clear k4 k5 k6 hlen i0 i1 i2 i3 i4 i5 j0 j1 j2 j3 j4 j5 hrow ih hN hsc hsd HA hn0 hn1 hrc hrd hcap e2
      have B := Lib.hid (Bn1.new w (.cells #[.int .u8 4, .int .u64 sa, .int .u64 sb, .int .u64 sc, .int .u64 sd, .slice (some ⟨bk, off, none⟩) 2 cap] 39))
      go_enter Tryz.func30, Tryz.ntmps30
      go_wp2_with fail
      obtain ⟨W, hW⟩ : ∃ x, x = (w.alloc (.cells #[.int .u8 4, .int .u64 sa, .int .u64 sb, .int .u64 sc, .int .u64 sd, .slice (some ⟨bk, off, none⟩) 2 cap] 39)).alloc (.cells #[.int .u8 0, .int .u64 0, .int .u64 0, .int .u64 0, .int .u64 0, .slice none 0 0] 39) := ⟨_, rfl⟩
      rw [← hW] at B ⊢
      clear hW
      have CX := Lib.hid fun x (hx : Below W.heap.size W x) => (cellsR (B.out.go hx).1).2.2.2.2.2.1
      have CC := Lib.hid fun x (hx : Below W.heap.size W x) => six_keep hlt I6.out (B.out.go hx).2.2
      have CD := Lib.hid fun x (hx : Below W.heap.size W x) => six_keep hlt J6.out (B.out.go hx).2.2
      have KC := Lib.hid fun x (hx : Below W.heap.size W x) => KC0.out x (B.out.go hx).2.2
      have KD := Lib.hid fun x (hx : Below W.heap.size W x) => KD0.out x (B.out.go hx).2.2
      refine wp_region_orderT 11 (fun i => ([SP.eq (.pointer (some ⟨w.heap.size, 5, none⟩)), SP.eq (.slice (some ⟨bk, off, none⟩) 2 cap), SP.eq (.pointer (some ⟨bk, off, none⟩)), SP.eq (.agg #[.int .u8 kc, .int .u64 ca, .int .u64 cb, .int .u64 cc, .int .u64 cd, .slice al0 ksc.length cap0]), SP.ex (fun _ => True) (nfE c), SP.eq (.pointer (some ⟨w.heap.size, 5, none⟩)), SP.eq (.slice (some ⟨bk, off, none⟩) 2 cap), SP.eq (.pointer (some ⟨bk, off + 6, none⟩)), SP.eq (.agg #[.int .u8 kd, .int .u64 da, .int .u64 db, .int .u64 dc, .int .u64 dd, .slice al1 ksd.length cap1]), SP.ex (fun _ => True) (nfE d), SP.ex (fun _ => True) (seqE (nfE c) (nfE d))] : List SP).getD i SP.free) (fun _ => false) (fun _ _ _ h => by cases h) (by kernel_rfl) (by kernel_rfl) ⟨?_, ?_, ?_, ?_, ?_, ?_, ?_, ?_, ?_, ?_, ?_, trivial⟩ ?_
      · intro a x K out get hb hK
        rw [if_pos (wanted_none rfl)]
        have o1 : a.tmps[1]? = some (.pointer (some ⟨w.heap.size, 0, none⟩)) := out 1 (by kernel_rfl)
        clear out get
        go_simp
        exact hK _ _ rfl (Below.refl _ _) (fun h => by cases h)
      · intro a x K out get hb hK
        rw [if_pos (wanted_none rfl)]
        obtain ⟨y6, hy6, rfl⟩ := get 0 _ _ rfl rfl (by kernel_rfl)
        clear out get
        have hk5 := CX.out x hb
        go_simp
        exact hK _ _ rfl (Below.refl _ _) (fun h => by cases h)
      · intro a x K out get hb hK
        rw [if_pos (wanted_none rfl)]
        obtain ⟨y7, hy7, rfl⟩ := get 1 _ _ rfl rfl (by kernel_rfl)
        clear out get
        go_simp
        exact hK _ _ rfl (Below.refl _ _) (fun h => by cases h)
      · intro a x K out get hb hK
        rw [if_pos (wanted_none rfl)]
        obtain ⟨y8, hy8, rfl⟩ := get 2 _ _ rfl rfl (by kernel_rfl)
        clear out get
        obtain ⟨c0, c1, c2, c3, c4, c5⟩ := CC.out x hb
        go_simp
        exact hK _ _ rfl (Below.refl _ _) (fun h => by cases h)
      · intro a x K out get hb hK
        rw [if_pos (wanted_none rfl)]
        obtain ⟨y9, hy9, rfl⟩ := get 3 _ _ rfl rfl (by kernel_rfl)
        clear out get
        go_simp
        refine (KC.out x hb).mono ?_
        rintro e w2 ⟨v2, rfl, hv2, hb2⟩
        exact hK _ _ (ExV.of hv2 fun _ _ _ => trivial) hb2 (fun h => by cases h)
      · intro a x K out get hb hK
        rw [if_pos (wanted_none rfl)]
        have o1 : a.tmps[1]? = some (.pointer (some ⟨w.heap.size, 0, none⟩)) := out 1 (by kernel_rfl)
        clear out get
        go_simp
        exact hK _ _ rfl (Below.refl _ _) (fun h => by cases h)
      · intro a x K out get hb hK
        rw [if_pos (wanted_none rfl)]
        obtain ⟨y11, hy11, rfl⟩ := get 5 _ _ rfl rfl (by kernel_rfl)
        clear out get
        have hk5 := CX.out x hb
        go_simp
        exact hK _ _ rfl (Below.refl _ _) (fun h => by cases h)
      · intro a x K out get hb hK
        rw [if_pos (wanted_none rfl)]
        obtain ⟨y12, hy12, rfl⟩ := get 6 _ _ rfl rfl (by kernel_rfl)
        clear out get
        go_simp
        exact hK _ _ rfl (Below.refl _ _) (fun h => by cases h)
      · intro a x K out get hb hK
        rw [if_pos (wanted_none rfl)]
        obtain ⟨y13, hy13, rfl⟩ := get 7 _ _ rfl rfl (by kernel_rfl)
        clear out get
        obtain ⟨c0, c1, c2, c3, c4, c5⟩ := CD.out x hb
        go_simp
        exact hK _ _ rfl (Below.refl _ _) (fun h => by cases h)
      · intro a x K out get hb hK
        rw [if_pos (wanted_none rfl)]
        obtain ⟨y14, hy14, rfl⟩ := get 8 _ _ rfl rfl (by kernel_rfl)
        clear out get
        go_simp
        refine (KD.out x hb).mono ?_
        rintro e w2 ⟨v2, rfl, hv2, hb2⟩
        exact hK _ _ (ExV.of hv2 fun _ _ _ => trivial) hb2 (fun h => by cases h)
      · intro a x K out get hb hK
        rw [if_pos (wanted_none rfl)]
        obtain ⟨y10, hy10, ⟨p0, p1, p2, p3, p4, pl, pn, pc, rfl, hr10⟩⟩ := get 4 _ _ rfl rfl (by kernel_rfl)
        obtain ⟨y15, hy15, ⟨q0, q1, q2, q3, q4, ql, qn, qc, rfl, hr15⟩⟩ := get 9 _ _ rfl rfl (by kernel_rfl)
        clear out get
        go_simp
        refine (KS.out x _ _ hr10 hr15).mono ?_
        rintro e w2 ⟨v2, rfl, hv2, hb2⟩
        exact hK _ _ (ExV.of hv2 fun _ _ _ => trivial) hb2 (fun h => by cases h)
      refine ao_finT (isD := fun s => decide (6 ≤ s) && decide (s ≤ 16)) (by kernel_rfl) ?_
      intro f x hv hne hb
      clear hne
      obtain ⟨p0, p1, p2, p3, p4, pl, pn, pc, eL, rL⟩ := hv 10 _ _ (by decide) rfl rfl
      have B2 := Lib.hid (B.out.go hb)
      have HV := Lib.hid (show ReAt (okN (fun _ => True) w.heap.size) x (.agg #[.int .u8 p0, .int .u64 p1, .int .u64 p2, .int .u64 p3, .int .u64 p4, .slice pl pn pc]) (seqE (nfE c) (nfE d)).rx from rL.imp fun _ _ _ => Or.inl trivial)
      obtain ⟨c0, c1, c2, c3, c4, c5, f0, f1, f2, f3, f4, f5⟩ := cellsR B2.out.2.1
      clear hv hb rL
      simp only [frm, List.drop_succ_cons, List.drop_zero]
      simp
      rw [eL]
      generalize f 6 = u6 at *
      generalize f 7 = u7 at *
      generalize f 8 = u8 at *
      generalize f 9 = u9 at *
      generalize f 10 = u10 at *
      generalize f 11 = u11 at *
      generalize f 12 = u12 at *
      generalize f 13 = u13 at *
      generalize f 14 = u14 at *
      generalize f 15 = u15 at *
      clear eL f
      go_wp2
      exact ret_ex (e := seqE (nfE c) (nfE d)) B2.out.2.1 HV.out B2.out.2.2 (by omega) Tryz.results30 rfl rfl
    | alt c d =>
      show Calls _ _ _ w (ExPost (fun _ => True) (altE [nfE c, nfE d]) w)
      simp only [Ex.rx] at hsa
      injection hsa with e1 e2 e3
      subst e1
      subst e3
      obtain ⟨bk, off, rfl, hlt, hn0⟩ := hrow.kid (i := 0) (by simp)
      simp only [List.getElem_cons_zero, Nat.zero_mul, Nat.add_zero] at hn0
      obtain ⟨bk', off', e', hlt', hn1⟩ := hrow.kid (i := 1) (by simp)
      simp at e'
      obtain ⟨rfl, rfl⟩ := e'
      simp only [List.getElem_cons_zero, List.getElem_cons_succ, Nat.one_mul] at hn1
      have hcap2 : 2 ≤ cap := by simpa using hcap
      obtain ⟨kc, ⟨ca, cb, cc, cd⟩, ksc, hsc⟩ := rx_form c
      obtain ⟨kd, ⟨da, db, dc, dd⟩, ksd, hsd⟩ := rx_form d
      rw [hsc] at hn0
      rw [hsd] at hn1
      obtain ⟨al0, cap0, ⟨i0, i1, i2, i3, i4, i5⟩, hrc⟩ := hn0.read
      obtain ⟨al1, cap1, ⟨j0, j1, j2, j3, j4, j5⟩, hrd⟩ := hn1.read
      simp only at i0 i1 i2 i3 i4 i5 j0 j1 j2 j3 j4 j5
      rw [← hsc] at hrc
      rw [← hsd] at hrd
      simp only [Ex.size] at hN hbig
      have zc := nf_size c
      have zd := nf_size d
      have KC0 := Lib.hid fun W (hb : Below w.heap.size w W) => ih c (by omega) we.1 (by omega) ok _ W (hrc.below hb)
      have KD0 := Lib.hid fun W (hb : Below w.heap.size w W) => ih d (by omega) we.2 (by omega) ok _ W (hrd.below hb)
      have wcd : Ex.Wfs [nfE c, nfE d] := fun z hz => by
        simp at hz
        rcases hz with rfl | rfl
        · exact nf_wf c we.1
        · exact nf_wf d we.2
      have KT := Lib.hid fun x (_ : Below (w.heap.size + 1 + 1) x x ∨ True) (g : Nat) (h : RowAt (fun _ => True) x (some ⟨g, 0, none⟩) [(nfE c).rx, (nfE d).rx]) => ref8alt x.heap.size [nfE c, nfE d] (some ⟨g, 0, none⟩) 2 x (Nat.le_refl _) (h.imp fun b hb _ => hb) wcd (by simp [sizeL]; omega) (by simp)
      rw [show [nfE c, nfE d].length = 2 from rfl] at KT
      replace KT := Lib.hid fun x (_ : True) g h => KT.out x (.inr trivial) g h
      clear wcd
      have I6 := Lib.hid (show w.cell? ⟨bk, off, none⟩ = some (.int .u8 kc) ∧ w.cell? ⟨bk, off + 1, none⟩ = some (.int .u64 ca) ∧ w.cell? ⟨bk, off + 2, none⟩ = some (.int .u64 cb) ∧ w.cell? ⟨bk, off + 3, none⟩ = some (.int .u64 cc) ∧ w.cell? ⟨bk, off + 4, none⟩ = some (.int .u64 cd) ∧ w.cell? ⟨bk, off + 5, none⟩ = some (.slice al0 ksc.length cap0) from ⟨i0, i1, i2, i3, i4, i5⟩)
      have J6 := Lib.hid (show w.cell? ⟨bk, off + 6, none⟩ = some (.int .u8 kd) ∧ w.cell? ⟨bk, off + 6 + 1, none⟩ = some (.int .u64 da) ∧ w.cell? ⟨bk, off + 6 + 2, none⟩ = some (.int .u64 db) ∧ w.cell? ⟨bk, off + 6 + 3, none⟩ = some (.int .u64 dc) ∧ w.cell? ⟨bk, off + 6 + 4, none⟩ = some (.int .u64 dd) ∧ w.cell? ⟨bk, off + 6 + 5, none⟩ = some (.slice al1 ksd.length cap1) from ⟨j0, j1, j2, j3, j4, j5⟩)
      have hlen : [c.rx, d.rx].length = 2 := rfl
      rw [hlen, show (((5 : Nat) : Int)) = 5 from rfl]
      clear k4 k5 k6 hlen i0 i1 i2 i3 i4 i5 j0 j1 j2 j3 j4 j5 hrow ih hN hsc hsd HA hn0 hn1 hrc hrd hcap e2
      have B := Lib.hid (Bn1.new w (.cells #[.int .u8 5, .int .u64 sa, .int .u64 sb, .int .u64 sc, .int .u64 sd, .slice (some ⟨bk, off, none⟩) 2 cap] 39))
      go_enter Tryz.func30, Tryz.ntmps30
      go_wp2_with fail
      obtain ⟨W, hW⟩ : ∃ x, x = (w.alloc (.cells #[.int .u8 5, .int .u64 sa, .int .u64 sb, .int .u64 sc, .int .u64 sd, .slice (some ⟨bk, off, none⟩) 2 cap] 39)).alloc (.cells #[.int .u8 0, .int .u64 0, .int .u64 0, .int .u64 0, .int .u64 0, .slice none 0 0] 39) := ⟨_, rfl⟩
      rw [← hW] at B ⊢
      clear hW
      have CX := Lib.hid fun x (hx : Below W.heap.size W x) => (cellsR (B.out.go hx).1).2.2.2.2.2.1
      have CC := Lib.hid fun x (hx : Below W.heap.size W x) => six_keep hlt I6.out (B.out.go hx).2.2
      have CD := Lib.hid fun x (hx : Below W.heap.size W x) => six_keep hlt J6.out (B.out.go hx).2.2
      have KC := Lib.hid fun x (hx : Below W.heap.size W x) => KC0.out x (B.out.go hx).2.2
      have KD := Lib.hid fun x (hx : Below W.heap.size W x) => KD0.out x (B.out.go hx).2.2
      refine wp_region_orderT 12 (fun i => ([SP.eq (.pointer (some ⟨w.heap.size, 5, none⟩)), SP.eq (.slice (some ⟨bk, off, none⟩) 2 cap), SP.eq (.pointer (some ⟨bk, off, none⟩)), SP.eq (.agg #[.int .u8 kc, .int .u64 ca, .int .u64 cb, .int .u64 cc, .int .u64 cd, .slice al0 ksc.length cap0]), SP.ex (fun _ => True) (nfE c), SP.eq (.pointer (some ⟨w.heap.size, 5, none⟩)), SP.eq (.slice (some ⟨bk, off, none⟩) 2 cap), SP.eq (.pointer (some ⟨bk, off + 6, none⟩)), SP.eq (.agg #[.int .u8 kd, .int .u64 da, .int .u64 db, .int .u64 dc, .int .u64 dd, .slice al1 ksd.length cap1]), SP.ex (fun _ => True) (nfE d), SP.two (nfE c) (nfE d), SP.ex (fun _ => True) (altE [nfE c, nfE d])] : List SP).getD i SP.free) (fun _ => false) (fun _ _ _ h => by cases h) (by kernel_rfl) (by kernel_rfl) ⟨?_, ?_, ?_, ?_, ?_, ?_, ?_, ?_, ?_, ?_, ?_, ?_, trivial⟩ ?_
      · intro a x K out get hb hK
        rw [if_pos (wanted_none rfl)]
        have o1 : a.tmps[1]? = some (.pointer (some ⟨w.heap.size, 0, none⟩)) := out 1 (by kernel_rfl)
        clear out get
        go_simp
        exact hK _ _ rfl (Below.refl _ _) (fun h => by cases h)
      · intro a x K out get hb hK
        rw [if_pos (wanted_none rfl)]
        obtain ⟨y20, hy20, rfl⟩ := get 0 _ _ rfl rfl (by kernel_rfl)
        clear out get
        have hk5 := CX.out x hb
        go_simp
        exact hK _ _ rfl (Below.refl _ _) (fun h => by cases h)
      · intro a x K out get hb hK
        rw [if_pos (wanted_none rfl)]
        obtain ⟨y21, hy21, rfl⟩ := get 1 _ _ rfl rfl (by kernel_rfl)
        clear out get
        go_simp
        exact hK _ _ rfl (Below.refl _ _) (fun h => by cases h)
      · intro a x K out get hb hK
        rw [if_pos (wanted_none rfl)]
        obtain ⟨y22, hy22, rfl⟩ := get 2 _ _ rfl rfl (by kernel_rfl)
        clear out get
        obtain ⟨c0, c1, c2, c3, c4, c5⟩ := CC.out x hb
        go_simp
        exact hK _ _ rfl (Below.refl _ _) (fun h => by cases h)
      · intro a x K out get hb hK
        rw [if_pos (wanted_none rfl)]
        obtain ⟨y23, hy23, rfl⟩ := get 3 _ _ rfl rfl (by kernel_rfl)
        clear out get
        go_simp
        refine (KC.out x hb).mono ?_
        rintro e w2 ⟨v2, rfl, hv2, hb2⟩
        exact hK _ _ (ExV.of hv2 fun _ _ _ => trivial) hb2 (fun h => by cases h)
      · intro a x K out get hb hK
        rw [if_pos (wanted_none rfl)]
        have o1 : a.tmps[1]? = some (.pointer (some ⟨w.heap.size, 0, none⟩)) := out 1 (by kernel_rfl)
        clear out get
        go_simp
        exact hK _ _ rfl (Below.refl _ _) (fun h => by cases h)
      · intro a x K out get hb hK
        rw [if_pos (wanted_none rfl)]
        obtain ⟨y25, hy25, rfl⟩ := get 5 _ _ rfl rfl (by kernel_rfl)
        clear out get
        have hk5 := CX.out x hb
        go_simp
        exact hK _ _ rfl (Below.refl _ _) (fun h => by cases h)
      · intro a x K out get hb hK
        rw [if_pos (wanted_none rfl)]
        obtain ⟨y26, hy26, rfl⟩ := get 6 _ _ rfl rfl (by kernel_rfl)
        clear out get
        go_simp
        exact hK _ _ rfl (Below.refl _ _) (fun h => by cases h)
      · intro a x K out get hb hK
        rw [if_pos (wanted_none rfl)]
        obtain ⟨y27, hy27, rfl⟩ := get 7 _ _ rfl rfl (by kernel_rfl)
        clear out get
        obtain ⟨c0, c1, c2, c3, c4, c5⟩ := CD.out x hb
        go_simp
        exact hK _ _ rfl (Below.refl _ _) (fun h => by cases h)
      · intro a x K out get hb hK
        rw [if_pos (wanted_none rfl)]
        obtain ⟨y28, hy28, rfl⟩ := get 8 _ _ rfl rfl (by kernel_rfl)
        clear out get
        go_simp
        refine (KD.out x hb).mono ?_
        rintro e w2 ⟨v2, rfl, hv2, hb2⟩
        exact hK _ _ (ExV.of hv2 fun _ _ _ => trivial) hb2 (fun h => by cases h)
      · intro a x K out get hb hK
        rw [if_pos (wanted_none rfl)]
        obtain ⟨y24, hy24, ⟨p0, p1, p2, p3, p4, pl, pn, pc, rfl, hr24⟩⟩ := get 4 _ _ rfl rfl (by kernel_rfl)
        obtain ⟨y29, hy29, ⟨q0, q1, q2, q3, q4, ql, qn, qc, rfl, hr29⟩⟩ := get 9 _ _ rfl rfl (by kernel_rfl)
        clear out get
        go_simp
        exact hK _ _ ⟨_, rfl, row_two (blk_new x _) trivial ((hr24.below (bel_al2 x _))) ((hr29.below (bel_al2 x _)))⟩ (bel_al2 _ _) (fun h => by cases h)
      · intro a x K out get hb hK
        rw [if_pos (wanted_none rfl)]
        obtain ⟨y30, hy30, ⟨g30, rfl, hrow30⟩⟩ := get 10 _ _ rfl rfl (by kernel_rfl)
        clear out get
        go_simp
        refine (KT.out x trivial _ hrow30).mono ?_
        rintro e w2 ⟨v2, rfl, hv2, hb2⟩
        exact hK _ _ (ExV.of hv2 fun _ _ _ => trivial) hb2 (fun h => by cases h)
      refine ao_finT (isD := fun s => decide (20 ≤ s) && decide (s ≤ 31)) (by kernel_rfl) ?_
      intro f x hv hne hb
      clear hne
      obtain ⟨p0, p1, p2, p3, p4, pl, pn, pc, eL, rL⟩ := hv 11 _ _ (by decide) rfl rfl
      have B2 := Lib.hid (B.out.go hb)
      have HV := Lib.hid (show ReAt (okN (fun _ => True) w.heap.size) x (.agg #[.int .u8 p0, .int .u64 p1, .int .u64 p2, .int .u64 p3, .int .u64 p4, .slice pl pn pc]) (altE [nfE c, nfE d]).rx from rL.imp fun _ _ _ => Or.inl trivial)
      obtain ⟨c0, c1, c2, c3, c4, c5, f0, f1, f2, f3, f4, f5⟩ := cellsR B2.out.2.1
      clear hv hb rL
      simp only [frm, List.drop_succ_cons, List.drop_zero]
      simp
      rw [eL]
      generalize f 20 = u20 at *
      generalize f 21 = u21 at *
      generalize f 22 = u22 at *
      generalize f 23 = u23 at *
      generalize f 24 = u24 at *
      generalize f 25 = u25 at *
      generalize f 26 = u26 at *
      generalize f 27 = u27 at *
      generalize f 28 = u28 at *
      generalize f 29 = u29 at *
      generalize f 30 = u30 at *
      clear eL f
      go_wp2
      exact ret_ex (e := altE [nfE c, nfE d]) B2.out.2.1 HV.out B2.out.2.2 (by omega) Tryz.results30 rfl rfl
set_option maxHeartbeats 2000000 in
set_option maxRecDepth 100000 in
theorem ref8norm {ok : Nat → Prop} (r : Rx) (v : Value) (w : World) (hbig : r.size ≤ 1000000) (h : ReAt ok w v r) :
    Calls Tryz.prog 23 #[v] w (RePost (fun _ => True) (normX r) w) := by
  obtain ⟨x0, x1, x2, x3, x4, xl, xn, xc, rfl⟩ := cells_re h
  have B := Lib.hid (Bn1.new w (.cells #[.int .u8 x0, .int .u64 x1, .int .u64 x2, .int .u64 x3, .int .u64 x4, .slice xl xn xc] 39))
  have KM := Lib.hid (refMay_any r _ _ hbig (h.below B.out.2.2))
  cases hm : mayR r with
  | false =>
    have hq : normX r = .node 0 Ws.nil [] := by unfold normX; rw [exX_no hm]; rfl
    rw [hq]
    rw [hm] at KM
    clear hm hq h
    go_enter Tryz.func23, Tryz.ntmps23
    go_wp2_with fail
    refine KM.out.mono ?_
    rintro e w1 ⟨rfl, hb1⟩
    have B1 := Lib.hid (B.out.go hb1)
    clear hb1 B
    obtain ⟨c0, c1, c2, c3, c4, c5, f0, f1, f2, f3, f4, f5⟩ := cellsR B1.out.2.1
    go_wp2
    exact ret_re (putR B1.out.2.1 _ _ _ _ _ _) Tryz.results23 rfl rfl ⟨_, rfl, bareAt _ _ 0 Ws.nil (by decide) Ws.nil_ok, putB B1.out.2.2 (by omega) _ _ _ _ _ _⟩
  | true =>
    obtain ⟨e0, he0, we, hs⟩ := may_ex h hm
    have hq : normX r = (nfE e0).rx := by unfold normX; rw [← he0, exX_of we hs]; rfl
    rw [hq]
    rw [hm] at KM
    have KN := Lib.hid fun W (hb : Below w.heap.size w W) => ref8of e0.size e0 (Nat.le_refl _) we (by omega) ok _ W (by rw [he0]; exact h.below hb)
    clear hm hq h he0
    go_enter Tryz.func23, Tryz.ntmps23
    go_wp2_with fail
    refine KM.out.mono ?_
    rintro e w1 ⟨rfl, hb1⟩
    have B1 := Lib.hid (B.out.go hb1)
    clear hb1 B
    obtain ⟨c0, c1, c2, c3, c4, c5, -⟩ := cellsR B1.out.1
    go_wp2_with fail
    refine (KN.out _ B1.out.2.2).mono ?_
    rintro e w2 ⟨v2, rfl, hv2, hb2⟩
    obtain ⟨q0, q1, q2, q3, q4, ql, qn, qc, rfl⟩ := cells_re hv2
    have B2 := Lib.hid (B1.out.go hb2)
    have HV := Lib.hid (show ReAt (okN (fun _ => True) w.heap.size) w2 (.agg #[.int .u8 q0, .int .u64 q1, .int .u64 q2, .int .u64 q3, .int .u64 q4, .slice ql qn qc]) (nfE e0).rx from hv2.imp fun _ _ _ => Or.inl trivial)
    clear hv2 hb2 B1 c0 c1 c2 c3 c4 c5
    obtain ⟨c0, c1, c2, c3, c4, c5, f0, f1, f2, f3, f4, f5⟩ := cellsR B2.out.2.1
    go_wp2
    exact ret_ex (e := nfE e0) (ok := fun _ => True) B2.out.2.1 HV.out B2.out.2.2 (by omega) Tryz.results23 rfl rfl
open Go.RowKit
set_option maxRecDepth 100000 in
set_option maxHeartbeats 4000000 in
theorem assert_mis (x : Value) (w : World) : (Instr.typeAssert (.iface 86 x) 20 86 true).run Tryz.prog w = .ok (.tuple #[x, .bool true]) w := by kernel_rfl
set_option maxRecDepth 100000 in
set_option maxHeartbeats 4000000 in
theorem assert_err (x : Value) (w : World) : (Instr.typeAssert (.iface 56 x) 20 56 true).run Tryz.prog w = .ok (.tuple #[x, .bool true]) w := by kernel_rfl
set_option maxRecDepth 100000 in
set_option maxHeartbeats 4000000 in
theorem assert_not (x : Value) (w : World) : (Instr.typeAssert (.iface 56 x) 20 86 true).run Tryz.prog w = .ok (.tuple #[.int .i64 0, .bool false]) w := by kernel_rfl
theorem rep15 : (Array.replicate 15 undef : Array Value) = #[undef, undef, undef, undef, undef, undef, undef, undef, undef, undef, undef, undef, undef, undef, undef] := rfl
set_option maxRecDepth 100000 in
set_option maxHeartbeats 4000000 in
theorem catch_idle (p q : Addr) (w : World) :
    CallsD Tryz.prog 36 #[.pointer (some p), .pointer (some q)] .returning w fun e u' w' => e = .returned (.tuple #[]) ∧ u' = .returning ∧ w' = w := by
  refine callsD_of_wpS Tryz.func36 rfl fun c₀ cs hu => ?_
  apply wpS_seq
  apply wpS_region
  simp [wpOpsS, go_sem, recoverD, hu, Tryz.ntmps36, Exit.thenS]
  simp only [rep15, List.setIfInBounds_toArray, List.set_cons_succ, List.set_cons_zero, List.append_toArray, List.cons_append, List.nil_append]
  refine wpS_of_wp ?_
  go_wp2
  cases c₀
  simp_all [bodyPostS, results, Tryz.results36]
set_option maxRecDepth 100000 in
set_option maxHeartbeats 4000000 in
theorem catch_form (g h : Nat) (k : Nat) (a b : Value) (older : List PanicEntry) (w : World) (ha : w.cell? ⟨g, 0, none⟩ = some a) (hb : w.cell? ⟨h, 0, none⟩ = some b) (fa : w.frozen? ⟨g, 0, none⟩ = false) (fb : w.frozen? ⟨h, 0, none⟩ = false) (hpq' : ¬ g = h) :
    CallsD Tryz.prog 36 #[.pointer (some ⟨g, 0, none⟩), .pointer (some ⟨h, 0, none⟩)] (.panicking ({ v := .iface 86 (.int .i64 k), recovered := false } :: older)) w fun e u' w' =>
      e = .returned (.tuple #[]) ∧ u' = .panicking ({ v := .iface 86 (.int .i64 k), recovered := true } :: older) ∧ w' = (w.setCell ⟨g, 0, none⟩ (.int .i64 k)).setCell ⟨h, 0, none⟩ (.int .i64 2) := by
  refine callsD_of_wpS Tryz.func36 rfl fun c₀ cs hu => ?_
  have h1 := assert_mis
  apply wpS_seq
  apply wpS_region
  simp [wpOpsS, go_sem, recoverD, hu, Tryz.ntmps36, Exit.thenS]
  simp only [rep15, List.setIfInBounds_toArray, List.set_cons_succ, List.set_cons_zero, List.append_toArray, List.cons_append, List.nil_append]
  refine wpS_of_wp ?_
  go_wp2
  simp [bodyPostS, results, Tryz.results36]
set_option maxRecDepth 100000 in
set_option maxHeartbeats 4000000 in
theorem catch_err (g h : Nat) (k : Nat) (b : Value) (older : List PanicEntry) (w : World) (hb : w.cell? ⟨h, 0, none⟩ = some b) (fb : w.frozen? ⟨h, 0, none⟩ = false) :
    CallsD Tryz.prog 36 #[.pointer (some ⟨g, 0, none⟩), .pointer (some ⟨h, 0, none⟩)] (.panicking ({ v := .iface 56 (.int .i64 k), recovered := false } :: older)) w fun e u' w' =>
      e = .returned (.tuple #[]) ∧ u' = .panicking ({ v := .iface 56 (.int .i64 k), recovered := true } :: older) ∧ w' = w.setCell ⟨h, 0, none⟩ (.int .i64 k) := by
  refine callsD_of_wpS Tryz.func36 rfl fun c₀ cs hu => ?_
  have h1 := assert_err
  have h2 := assert_not
  apply wpS_seq
  apply wpS_region
  simp [wpOpsS, go_sem, recoverD, hu, Tryz.ntmps36, Exit.thenS]
  simp only [rep15, List.setIfInBounds_toArray, List.set_cons_succ, List.set_cons_zero, List.append_toArray, List.cons_append, List.nil_append]
  refine wpS_of_wp ?_
  go_wp2
  simp [bodyPostS, results, Tryz.results36]
end Go.Proofs.YthgghaaddankoaaGreatDoor
