/- Lemmas of mine, merged: QTRexJ, QTRexK, QTRexL, QTRexN, QTNullB, QTNormX, QTMemM, QTRdrA, QTMemN, QTRdrQ. -/
import Derived.Test.YthgghaaddankoaaGreatDoorQTRexEAll
import Derived.Test.YthgghaaddankoaaGreatDoorQTSetCAll
import Derived.StillTailTactics
import Derived.IntWalk
import Derived.OwnWalk
import Derived.RegionTactic
import Derived.Deep.RegionHeld3
import Derived.Test.YthgghaaddankoaaGreatDoorQTRexBAll
import Derived.Test.YthgghaaddankoaaGreatDoorQTFstIAll
import Derived.WalkKit
import Derived.WalkSpells
import Derived.WalkLawsBesides
import Derived.Lib.OthersKept
import Derived.Lib.Hide
import Derived.Deep.QuietTactic
import Derived.Laws.DeepStrings4
import Derived.BigQuiet
import Derived.BigRegion
import Derived.Recover
import Derived.Test.YthgghaaddankoaaGreatDoorRows
import Derived.Defers
/- Lemmas of mine. -/
namespace Go.Proofs.YthgghaaddankoaaGreatDoor
open Go.RowKit
theorem refSame {ok ok' : Nat → Prop} (r t : Rx) (v u : Value) (w : World) (h : ReAt ok w v r) (h' : ReAt ok' w u t) :
    Calls Tryz.prog 17 #[v, u] w fun e w' => e = .returned (.bool (sameR r t)) ∧ Below w.heap.size w w' := refSame_any r.size r t (Nat.le_refl _) v u w h h'
open Go.RowKit
structure But (g B : Nat) (w w' : World) : Prop where
  os : w'.os = w.os
  tape : w'.tape = w.tape
  output : w'.output = w.output
  size : w.heap.size ≤ w'.heap.size
  block : ∀ k, k < B → k ≠ g → w'.heap[k]? = w.heap[k]?
theorem But.refl (g B : Nat) (w : World) : But g B w w := ⟨rfl, rfl, rfl, Nat.le_refl _, fun _ _ _ => rfl⟩
theorem But.trans {g B : Nat} {a b c : World} (h : But g B a b) (k : But g B b c) : But g B a c :=
  ⟨k.os.trans h.os, k.tape.trans h.tape, k.output.trans h.output, Nat.le_trans h.size k.size, fun i hi hg => (k.block i hi hg).trans (h.block i hi hg)⟩
theorem But.mono {g B B' : Nat} {w w' : World} (h : But g B w w') (hB : B' ≤ B) : But g B' w w' := ⟨h.os, h.tape, h.output, h.size, fun k hk hg => h.block k (Nat.lt_of_lt_of_le hk hB) hg⟩
theorem But.of {g B : Nat} {w w' : World} (h : Below B w w') : But g B w w' := ⟨h.os, h.tape, h.output, h.size, fun k hk _ => h.block k hk⟩
theorem But.below {g B : Nat} {w w' : World} (h : But g B w w') (hB : B ≤ g) : Below B w w' := ⟨h.os, h.tape, h.output, h.size, fun k hk => h.block k hk (by omega)⟩
theorem But.set {g B : Nat} {w w' : World} (h : But g B w w') (o : Nat) (v : Value) : But g B w (w'.setCell ⟨g, o, none⟩ v) :=
  h.trans ⟨rfl, rfl, rfl, by simp [World.setCell], fun k _ hg => Below.heap_setCell _ _ _ _ hg⟩
theorem But.kept {g : Nat} {w w' : World} {ok : Nat → Prop} (h : But g w.heap.size w w') (hok : ∀ b, ok b → b ≠ g) : Kept ok ok w w' := ⟨h.size, fun b h1 h2 => ⟨h2, h.block b h1 (hok b h2)⟩⟩
def Left (w : World) (g : Nat) (z : Int) : Prop := w.heap[g]? = some (.cells #[.int .i64 z] 3)
theorem Left.cells {w : World} {g : Nat} {z : Int} (h : Left w g z) : w.cell? ⟨g, 0, none⟩ = some (.int .i64 z) ∧ w.frozen? ⟨g, 0, none⟩ = false := by
  unfold Left at h
  exact ⟨by rw [Lib.cell_of_heap h]; rfl, Lib.frozen_of_heap h 0⟩
theorem Left.lt {w : World} {g : Nat} {z : Int} (h : Left w g z) : g < w.heap.size := (Array.getElem?_eq_some_iff.1 h).1
theorem Left.set {w : World} {g : Nat} {z : Int} (h : Left w g z) (y : Int) : Left (w.setCell ⟨g, 0, none⟩ (.int .i64 y)) g y := by
  unfold Left at h ⊢
  simp [World.setCell, Array.getElem?_modify, h]
def MayPost (q : Bool) (n m g : Nat) (w : World) (e : Ending) (w' : World) : Prop := e = .returned (.bool q) ∧ (∃ z : Int, Left w' g z ∧ (q = true → z = (n : Int) - m)) ∧ But g w.heap.size w w'
def MayAt (ok : Nat → Prop) (g N : Nat) : Prop := ∀ (r : Rx), r.size ≤ N → ∀ (n : Nat) (v : Value) (w : World), n ≤ 2000 → Left w g n → ReAt ok w v r →
    Calls Tryz.prog 40 #[v, .pointer (some ⟨g, 0, none⟩)] w (MayPost (mayN r n) n r.size g w)
def PtrAt (w : World) (gb g : Nat) : Prop := w.heap[gb]? = some (.cells #[.pointer (some ⟨g, 0, none⟩)] 90)
theorem PtrAt.cell {w : World} {gb g : Nat} (h : PtrAt w gb g) : w.cell? ⟨gb, 0, none⟩ = some (.pointer (some ⟨g, 0, none⟩)) := by
  unfold PtrAt at h
  rw [Lib.cell_of_heap h]; rfl
theorem PtrAt.lt {w : World} {gb g : Nat} (h : PtrAt w gb g) : gb < w.heap.size := (Array.getElem?_eq_some_iff.1 h).1
set_option maxHeartbeats 1000000 in
theorem closure_of {ok : Nat → Prop} {g N : Nat} (ih : MayAt ok g N) (r : Rx) (hr : r.size ≤ N) (n gb : Nat) (v : Value) (w : World) (hn : n ≤ 2000) (hL : Left w g n) (hP : PtrAt w gb g) (h : ReAt ok w v r) :
    Calls Tryz.prog 56 #[v, .pointer (some ⟨gb, 0, none⟩)] w (fun e w' => e = .returned (.bool (!mayN r n)) ∧ (∃ z : Int, Left w' g z ∧ (mayN r n = true → z = (n : Int) - r.size)) ∧ But g w.heap.size w w') := by
  have K := Lib.hid fun W (hb : Below w.heap.size w W) => ih r hr n v W hn ((hb.block _ hL.lt).trans hL) (h.below hb)
  obtain ⟨x0, x1, x2, x3, x4, bl, n', cp, rfl⟩ := cells_re h
  have c := hP.cell
  have hlt := hP.lt
  clear ih h hL hP
  generalize mayN r n = q at *
  go_enter Tryz.func56, Tryz.ntmps56
  go_wp2_with fail
  refine (K.out _ ((Below.refl _ w).alloc (Nat.le_refl _) _)).mono ?_
  rintro e w1 ⟨rfl, hz, hb⟩
  have HZ := Lib.hid hz
  have HB : But g w.heap.size w w1 := (But.of ((Below.refl _ w).alloc (Nat.le_refl _) _)).trans (hb.mono (by simp))
  clear hz hb
  go_wp2
  go_ret
  exact ⟨rfl, HZ.out, HB⟩
open Go.RowKit
def idxInv (l : List Rx) (n g gb : Nat) (w : World) (y : Value) (wr : World) : Prop := ∃ i m : Nat, i ≤ l.length ∧ y = .int .i64 i ∧ mayNs (l.take i) n = true ∧ m = n - Rx.sizes (l.take i) ∧ Left wr g m ∧ PtrAt wr gb g ∧ But g w.heap.size w wr
def IdxPost (q : Bool) (n m g : Nat) (w : World) (e : Ending) (w' : World) : Prop := ∃ x : Int, decide (0 ≤ x) = !q ∧ e = .returned (.int .i64 x) ∧ (∃ z : Int, Left w' g z ∧ (q = true → z = (n : Int) - m)) ∧ But g w.heap.size w w'
theorem mayNs_le {l : List Rx} {n : Nat} (h : mayNs l n = true) : Rx.sizes l ≤ n := by
  simp [mayNs] at h; omega
set_option maxHeartbeats 4000000 in
theorem index_of {ok : Nat → Prop} {g N : Nat} (hok : ∀ b, ok b → b ≠ g) (ih : MayAt ok g N) (l : List Rx) (hN : Rx.sizes l ≤ N) (n gb : Nat) (al : Option Addr) (cap : Nat) (w : World) (hn : n ≤ 2000) (hl : l.length < 2199023255552) (hgb : gb ≠ g) (hL : Left w g n) (hP : PtrAt w gb g) (hR : RowAt ok w al l) :
    Calls Tryz.prog 54 #[.slice al l.length cap, .func (.func 56) #[] #[.pointer (some ⟨gb, 0, none⟩)]] w (IdxPost (mayNs l n) n (Rx.sizes l) g w) := by
  have HI := Lib.hid ih
  have HR := Lib.hid hR
  have HL := Lib.hid hL
  have HP := Lib.hid hP
  clear ih hR hL hP
  go_enter Tryz.func54, Tryz.ntmps54
  go_wp2
  go_loopw [8] (fun y wr => idxInv l n g gb w y wr) (fun y _ => l.length - (intOf y).toNat)
  case atStart => exact ⟨0, n, Nat.zero_le _, rfl, by simp [mayNs, goodRs, Rx.sizes], by simp [Rx.sizes], HL.out, HP.out, But.refl _ _ _⟩
  case round =>
    obtain ⟨i, m, hi, rfl, hmay, hm, hleft, hptr, hb⟩ := hrel
    have HM := Lib.hid hm
    have HY := Lib.hid hmay
    have HLe := Lib.hid hleft
    have HPt := Lib.hid hptr
    have hmn : m ≤ 2000 := by omega
    clear hm hmay hleft hptr HL HP
    by_cases hlt : i < l.length
    · obtain ⟨b, off, hab, hblt, hbok, hnode⟩ := HR.out.kidOk hlt
      subst hab
      have hkid := NodeAt.go (hb.kept hok) _ (hb.block b hblt (hok b hbok)) hnode
      have hkz := size_kid hlt
      have HS1 := fun h => mayNs_step (n := n) hlt HY.out h
      have HS2 := fun h => mayNs_stop (n := n) hlt HY.out h
      have htk := sizes_take l i hlt
      rw [← HM.out] at HS1 HS2
      have hsm : mayN l[i] m = true → l[i].size ≤ m := fun h => by simp [mayN] at h; omega
      clear hnode
      generalize l[i] = kid at *
      obtain ⟨k', ⟨ta, tb, tc, td⟩, ks'⟩ := kid
      obtain ⟨al', cap', ⟨c0, c1, c2, c3, c4, c5⟩, hre⟩ := hkid.read
      simp only at c0 c1 c2 c3 c4 c5
      have K := Lib.hid (closure_of HI.out _ (Nat.le_trans hkz hN) m gb _ wr hmn HLe.out HPt.out hre)
      generalize (Rx.node k' ⟨ta, tb, tc, td⟩ ks').size = z at *
      generalize mayN (Rx.node k' ⟨ta, tb, tc, td⟩ ks') m = q at *
      have T1 := Lib.hid HS1
      have T2 := Lib.hid HS2
      have T3 := Lib.hid htk
      have T4 := Lib.hid hsm
      clear hkid hre HS1 HS2 htk hsm
      have q1 : (i : Int) < (l.length : Int) := by omega
      go_wp2_with fail
      refine K.out.mono ?_
      rintro e w1 ⟨rfl, ⟨x, hx, hxz⟩, hb1⟩
      have HX := Lib.hid hx
      have HXZ := Lib.hid hxz
      have HP1 := Lib.hid (show PtrAt w1 gb g from (hb1.block _ HPt.out.lt hgb).trans HPt.out)
      replace hb := hb.trans (hb1.mono hb.size)
      clear hx hxz hb1 c0 c1 c2 c3 c4 c5
      cases q with
      | true =>
        go_wp2
        refine ⟨⟨i + 1, m - z, by omega, by go_num, T1.out trivial, ?_, ?_, HP1.out, hb⟩, by simp [intOf]; omega⟩
        · have := T3.out; have := HM.out; omega
        · have h := HX.out
          rw [HXZ.out trivial] at h
          have := T4.out trivial
          rw [show ((m - z : Nat) : Int) = (m : Int) - z from by omega]
          exact h
      | false =>
        go_wp2
        go_ret
        refine ⟨i, ?_, rfl, ⟨x, HX.out, fun h => ?_⟩, hb⟩
        · rw [T2.out trivial]; simp
        · rw [T2.out trivial] at h; cases h
    · have he : l.take i = l := List.take_of_length_le (by omega)
      rw [he] at HY HM
      go_wp2
      go_ret
      refine ⟨-1, ?_, rfl, ⟨m, HLe.out, fun _ => ?_⟩, hb⟩
      · rw [HY.out]; rfl
      · have := HM.out; have := mayNs_le HY.out; omega
theorem contains_of {ok : Nat → Prop} {g N : Nat} (hok : ∀ b, ok b → b ≠ g) (ih : MayAt ok g N) (l : List Rx) (hN : Rx.sizes l ≤ N) (n gb : Nat) (al : Option Addr) (cap : Nat) (w : World) (hn : n ≤ 2000) (hl : l.length < 2199023255552) (hgb : gb ≠ g) (hL : Left w g n) (hP : PtrAt w gb g) (hR : RowAt ok w al l) :
    Calls Tryz.prog 38 #[.slice al l.length cap, .func (.func 56) #[] #[.pointer (some ⟨gb, 0, none⟩)]] w fun e w' => e = .returned (.bool (!mayNs l n)) ∧ (∃ z : Int, Left w' g z ∧ (mayNs l n = true → z = (n : Int) - Rx.sizes l)) ∧ But g w.heap.size w w' := by
  have K := Lib.hid (index_of hok ih l hN n gb al cap w hn hl hgb hL hP hR)
  clear ih hL hP hR
  generalize mayNs l n = q at *
  go_enter Tryz.func38, Tryz.ntmps38
  go_wp2_with fail
  refine K.out.mono ?_
  rintro e w1 ⟨x, hx, rfl, hz, hb⟩
  have HX := Lib.hid hx
  have HZ := Lib.hid hz
  clear hx hz
  go_wp2
  go_ret
  exact ⟨by rw [← HX.out]; rfl, HZ.out, hb⟩
theorem mayN_node (k : Nat) (s : Ws) (ks : List Rx) (n : Nat) : mayN (.node k s ks) n = (decide (0 < n) && (nodeGood k ks.length (bareB s) && mayNs ks (n - 1))) := by
  unfold mayN mayNs goodR Rx.size
  by_cases h : 0 < n
  · have e : decide (1 + Rx.sizes ks ≤ n) = decide (Rx.sizes ks ≤ n - 1) := by rw [decide_eq_decide]; omega
    rw [e]; simp [h, Bool.and_assoc]
  · have e : decide (1 + Rx.sizes ks ≤ n) = false := by simp; omega
    rw [e]; simp [h]
def mayW (w : World) (g : Nat) (z : Int) (o : Obj) : World := ((w.setCell ⟨g, 0, none⟩ (.int .i64 z)).alloc o).alloc (.cells #[.pointer (some ⟨g, 0, none⟩)] 90)
theorem mayW_facts {w : World} {g : Nat} {y : Int} (h : Left w g y) (z : Int) (o : Obj) :
    Left (mayW w g z o) g z ∧ PtrAt (mayW w g z o) (w.heap.size + 1) g ∧ (mayW w g z o).heap[w.heap.size]? = some o ∧ But g w.heap.size w (mayW w g z o) ∧ (mayW w g z o).heap.size = w.heap.size + 2 := by
  have hg := h.lt
  have hs : (w.setCell ⟨g, 0, none⟩ (.int .i64 z)).heap.size = w.heap.size := by simp [World.setCell]
  refine ⟨(Below.heap_alloc _ _ _ (by rw [World.size_alloc, hs]; omega)).trans ((Below.heap_alloc _ _ _ (by rw [hs]; exact hg)).trans (h.set z)), blk_at _ _ (by rw [World.size_alloc, hs]), (Below.heap_alloc _ _ _ (by rw [World.size_alloc, hs]; omega)).trans (blk_at _ _ hs.symm), ?_, ?_⟩
  · exact ((But.refl g w.heap.size w).set 0 _).trans (But.of (((Below.refl _ _).alloc (by rw [hs]; exact Nat.le_refl _) _).alloc (by rw [World.size_alloc, hs]; omega) _))
  · unfold mayW; rw [World.size_alloc, World.size_alloc, hs]
set_option maxHeartbeats 4000000 in
theorem nodesMay_all {ok : Nat → Prop} {g : Nat} (hok : ∀ b, ok b → b ≠ g) (N : Nat) : MayAt ok g N := by
  induction N with
  | zero => intro r h; have := r.size_pos; omega
  | succ N ih =>
    rintro ⟨k, s, ks⟩ hN n v w hn hL hR
    obtain ⟨hk, hs, al, cap, rfl, hcap, hmax, hrow⟩ := hR
    have hN' : Rx.sizes ks ≤ N := by simp [Rx.size] at hN; omega
    rw [mayN_node]
    have hg := hL.lt
    obtain ⟨c, f⟩ := hL.cells
    have HL := Lib.hid hL
    have KB := Lib.hid fun W => nodeMay_any k s ks.length al cap W hk hmax
    have KC := Lib.hid fun (m gb : Nat) (W : World) (hm : m ≤ 2000) (hgb : gb ≠ g) (hL : Left W g m) (hP : PtrAt W gb g) (hb : But g w.heap.size w W) => contains_of hok ih ks hN' m gb al cap W hm hmax hgb hL hP (hrow.go (hb.kept hok))
    generalize nodeGood k ks.length (bareB s) = q at *
    obtain ⟨sa, sb, sc, sd⟩ := s
    have HSZ := Lib.hid (show (Rx.node k ⟨sa, sb, sc, sd⟩ ks).size = 1 + Rx.sizes ks from by simp [Rx.size])
    clear ih hrow hN hL
    simp only at KB
    go_enter Tryz.func40, Tryz.ntmps40
    by_cases hn0 : n = 0
    · subst hn0
      obtain ⟨m1, m2, m3, m4, m5⟩ := mayW_facts HL.out (-1) (.cells #[.int .u8 k, .int .u64 sa, .int .u64 sb, .int .u64 sc, .int .u64 sd, .slice al ks.length cap] 39)
      unfold mayW at m1 m4
      have M1 := Lib.hid m1
      have M4 := Lib.hid m4
      clear m1 m2 m3 m4 m5
      go_wp2
      go_ret
      exact ⟨by simp, ⟨-1, M1.out, fun h => by simp at h⟩, M4.out⟩
    · have d1 : decide ((n : Int) - 1 < 0) = false := by simp; omega
      have d2 : decide (0 < n) = true := by simp; omega
      have D2 := Lib.hid d2
      obtain ⟨m1, m2, m3, m4, m5⟩ := mayW_facts HL.out ((n : Int) - 1) (.cells #[.int .u8 k, .int .u64 sa, .int .u64 sb, .int .u64 sc, .int .u64 sd, .slice al ks.length cap] 39)
      have M1 := Lib.hid m1
      have M2 := Lib.hid m2
      have M3 := Lib.hid m3
      have M4 := Lib.hid m4
      have M5 := Lib.hid m5
      clear m1 m2 m3 m4 m5 d2
      go_wp2_with fail
      refine (KB.out _).mono ?_
      rintro e w1 ⟨rfl, hb1⟩
      change Below (mayW w g ((n : Int) - 1) (.cells #[.int .u8 k, .int .u64 sa, .int .u64 sb, .int .u64 sc, .int .u64 sd, .slice al ks.length cap] 39)).heap.size (mayW w g ((n : Int) - 1) (.cells #[.int .u8 k, .int .u64 sa, .int .u64 sb, .int .u64 sc, .int .u64 sd, .slice al ks.length cap] 39)) w1 at hb1
      generalize mayW w g ((n : Int) - 1) (.cells #[.int .u8 k, .int .u64 sa, .int .u64 sb, .int .u64 sc, .int .u64 sd, .slice al ks.length cap] 39) = W at *
      have hz := M5.out
      have n1 : Left w1 g ((n : Int) - 1) := (hb1.block _ (by omega)).trans M1.out
      have n2 : PtrAt w1 (w.heap.size + 1) g := (hb1.block _ (by omega)).trans M2.out
      have n3 := (hb1.block w.heap.size (by omega)).trans M3.out
      have n4 : But g w.heap.size w w1 := M4.out.trans (But.of (hb1.mono (by omega)))
      obtain ⟨g0, g1, g2, g3, g4, g5, p0, p1, p2, p3, p4, p5⟩ := cellsR n3
      have N1 := Lib.hid n1
      have N2 := Lib.hid n2
      have N4 := Lib.hid n4
      clear n1 n2 n3 n4 hb1 hz
      cases q with
      | false =>
        go_wp2
        go_ret
        exact ⟨by simp, ⟨(n : Int) - 1, N1.out, fun h => by simp at h⟩, N4.out⟩
      | true =>
        have e1 : ((n - 1 : Nat) : Int) = (n : Int) - 1 := by omega
        have K := Lib.hid (KC.out (n - 1) (w.heap.size + 1) w1 (by omega) (by omega) (by rw [e1]; exact N1.out) N2.out N4.out)
        clear e1
        generalize mayNs ks (n - 1) = q at *
        go_wp2_with fail
        refine K.out.mono ?_
        rintro e w2 ⟨rfl, ⟨z, hz, hzz⟩, hb2⟩
        have HZ := Lib.hid hz
        have HZZ := Lib.hid hzz
        have hb3 : But g w.heap.size w w2 := N4.out.trans (hb2.mono N4.out.size)
        clear hz hzz hb2
        go_wp2
        go_ret
        refine ⟨by rw [D2.out]; simp, ⟨z, HZ.out, fun h => ?_⟩, hb3⟩
        rw [D2.out] at h
        have := HZZ.out (by simpa using h)
        rw [this, HSZ.out]; omega
open Go.RowKit
set_option maxHeartbeats 1000000 in
theorem mayClosure_any {ok : Nat → Prop} (r : Rx) (v : Value) (w : World) (h : ReAt ok w v r) :
    Calls Tryz.prog 39 #[v] w fun e w' => e = .returned (.bool (!mayR r)) ∧ Below w.heap.size w w' := by
  have h' : ReAt (fun b => b < w.heap.size) w v r := h.imp fun b hb _ => hb
  have K := Lib.hid fun W (hb : Below w.heap.size w W) (hL : Left W (w.heap.size + 1) (2000 : Nat)) => nodesMay_all (ok := fun b => b < w.heap.size) (g := w.heap.size + 1) (fun b hb => by omega) r.size r (Nat.le_refl _) 2000 v W (Nat.le_refl _) hL (h'.below hb)
  obtain ⟨x0, x1, x2, x3, x4, bl, n', cp, rfl⟩ := cells_re h
  clear h h'
  have hm : mayR r = mayN r 2000 := rfl
  rw [hm]
  generalize mayN r 2000 = q at *
  go_enter Tryz.func39, Tryz.ntmps39
  go_wp2_with fail
  refine (K.out _ (((Below.refl _ w).alloc (Nat.le_refl _) _).alloc (by simp) _) (blk_at _ _ (by simp))).mono ?_
  rintro e w1 ⟨rfl, -, hb⟩
  have hbw : Below w.heap.size w w1 := (((Below.refl _ w).alloc (Nat.le_refl _) _).alloc (by simp) _).trans ((hb.mono (by simp; omega)).below (by omega))
  clear hb
  go_wp2
  go_ret
  exact ⟨rfl, hbw⟩
def idxInv2 (l : List Rx) (w : World) (y : Value) (wr : World) : Prop := ∃ i : Nat, i ≤ l.length ∧ y = .int .i64 i ∧ (l.take i).all mayR = true ∧ Below w.heap.size w wr
def IdxPost2 (q : Bool) (w : World) (e : Ending) (w' : World) : Prop := ∃ x : Int, decide (0 ≤ x) = !q ∧ e = .returned (.int .i64 x) ∧ Below w.heap.size w w'
set_option maxHeartbeats 4000000 in
theorem index_any {ok : Nat → Prop} (l : List Rx) (al : Option Addr) (cap : Nat) (w : World) (hl : l.length < 2199023255552) (hR : RowAt ok w al l) :
    Calls Tryz.prog 54 #[.slice al l.length cap, .func (.func 39) #[] #[]] w (IdxPost2 (l.all mayR) w) := by
  have HR := Lib.hid hR
  clear hR
  go_enter Tryz.func54, Tryz.ntmps54
  go_wp2
  go_loopw [8] (fun y wr => idxInv2 l w y wr) (fun y _ => l.length - (intOf y).toNat)
  case atStart => exact ⟨0, Nat.zero_le _, rfl, by simp, Below.refl _ _⟩
  case round =>
    obtain ⟨i, hi, rfl, hmay, hb⟩ := hrel
    have HY := Lib.hid hmay
    clear hmay
    by_cases hlt : i < l.length
    · obtain ⟨b, off, hab, hblt, hnode⟩ := HR.out.kid hlt
      subst hab
      have hkid := NodeAt.below hb _ hblt hnode
      have htk : (l.take (i + 1)).all mayR = ((l.take i).all mayR && mayR l[i]) := by
        rw [List.take_succ_eq_append_getElem hlt, List.all_append]; simp
      have hno : mayR l[i] = false → l.all mayR = false := fun h => by
        rw [List.all_eq_false]; exact ⟨l[i], List.getElem_mem hlt, by rw [h]; simp⟩
      clear hnode
      generalize l[i] = kid at *
      obtain ⟨k', ⟨ta, tb, tc, td⟩, ks'⟩ := kid
      obtain ⟨al', cap', ⟨c0, c1, c2, c3, c4, c5⟩, hre⟩ := hkid.read
      simp only at c0 c1 c2 c3 c4 c5
      have K := Lib.hid (mayClosure_any _ _ wr hre)
      generalize mayR (Rx.node k' ⟨ta, tb, tc, td⟩ ks') = q at *
      have T1 := Lib.hid htk
      have T2 := Lib.hid hno
      clear hkid hre htk hno
      have q1 : (i : Int) < (l.length : Int) := by omega
      go_wp2_with fail
      refine K.out.mono ?_
      rintro e w1 ⟨rfl, hb1⟩
      replace hb := hb.trans (hb1.mono hb.size)
      clear hb1 c0 c1 c2 c3 c4 c5
      cases q with
      | true =>
        go_wp2
        exact ⟨⟨i + 1, by omega, by go_num, by rw [T1.out, HY.out]; rfl, hb⟩, by simp [intOf]; omega⟩
      | false =>
        go_wp2
        go_ret
        exact ⟨i, by rw [T2.out trivial]; simp, rfl, hb⟩
    · have he : l.take i = l := List.take_of_length_le (by omega)
      rw [he] at HY
      go_wp2
      go_ret
      exact ⟨-1, by rw [HY.out]; rfl, rfl, hb⟩
theorem contains_any {ok : Nat → Prop} (l : List Rx) (al : Option Addr) (cap : Nat) (w : World) (hl : l.length < 2199023255552) (hR : RowAt ok w al l) :
    Calls Tryz.prog 38 #[.slice al l.length cap, .func (.func 39) #[] #[]] w fun e w' => e = .returned (.bool (!l.all mayR)) ∧ Below w.heap.size w w' := by
  have K := Lib.hid (index_any l al cap w hl hR)
  clear hR
  generalize l.all mayR = q at *
  go_enter Tryz.func38, Tryz.ntmps38
  go_wp2_with fail
  refine K.out.mono ?_
  rintro e w1 ⟨x, hx, rfl, hb⟩
  have HX := Lib.hid hx
  clear hx
  go_wp2
  go_ret
  exact ⟨by rw [← HX.out]; rfl, hb⟩
theorem mayX {ok : Nat → Prop} (l : List Rx) (al : Option Addr) (cap : Nat) (w : World) (hl : l.length < 2199023255552) (hR : RowAt ok w al l) :
    Calls Tryz.prog 25 #[.slice al l.length cap] w fun e w' => e = .returned (.bool (l.all mayR)) ∧ Below w.heap.size w w' := by
  have K := Lib.hid (contains_any l al cap w hl hR)
  clear hR
  generalize l.all mayR = q at *
  go_enter Tryz.func25, Tryz.ntmps25
  go_wp2_with fail
  refine K.out.mono ?_
  rintro e w1 ⟨rfl, hb⟩
  go_wp2
  go_ret
  exact ⟨by simp, hb⟩
theorem row_new {w : World} {ok : Nat → Prop} {x0 x1 x2 x3 x4 x5 : Value} {r : Rx} (h : ReAt ok w (.agg #[x0, x1, x2, x3, x4, x5]) r) : RowAt (fun _ => True) (w.alloc (.cells #[x0, x1, x2, x3, x4, x5] 39)) (some ⟨w.heap.size, 0, none⟩) [r] :=
  row_one (blk_new w _) trivial ((h.below ((Below.refl _ w).alloc (Nat.le_refl _) _)).imp fun _ _ _ => trivial)
open Go.RowKit
noncomputable def exX (r : Rx) : Option Ex := by
  classical
  exact if h : ∃ e : Ex, e.rx = r ∧ e.Wf ∧ e.size ≤ 2000 then some (Classical.choose h) else none
theorem exX_of {e : Ex} (we : e.Wf) (hs : e.size ≤ 2000) : exX e.rx = some e := by
  classical
  have h : ∃ f : Ex, f.rx = e.rx ∧ f.Wf ∧ f.size ≤ 2000 := ⟨e, rfl, we, hs⟩
  unfold exX
  rw [dif_pos h]
  exact congrArg some (Ex.rx_inj _ _ (Classical.choose_spec h).1)
theorem exX_no {r : Rx} (h : mayR r = false) : exX r = none := by
  classical
  unfold exX
  rw [dif_neg]
  rintro ⟨e, rfl, we, hs⟩
  have : mayR e.rx = true := by simp [mayR, mayN, good_ex e we, Ex.size_rx, hs]
  rw [this] at h
  cases h
end Go.Proofs.YthgghaaddankoaaGreatDoor
/- Lemmas of mine. -/
namespace Go.Proofs.YthgghaaddankoaaGreatDoor
noncomputable def normX (r : Rx) : Rx := ((exX r).map fun e => (nfE e).rx).getD (.node 0 Ws.nil [])
open Go.RowKit
structure MM where
  most : Nat
  l : List Rx
  all : Nat
  met : Nat
def MM.new (room : Int) : MM := ⟨min room.toNat 10000, [], 0, 0⟩
def hitB (l : List Rx) (x : Rx) (j : Nat) : Bool := match l[j]? with
  | some y => sameR y x
  | none => false
def placeI (l : List Rx) (x : Rx) : Int := fstI (hitB l x) l.length
noncomputable def MM.find (m : MM) (r : Rx) : MM × Int × Bool :=
  if mayR r = true then (if 0 ≤ placeI m.l (normX r) then (⟨m.most, m.l, m.all + 1, m.met + 1⟩, placeI m.l (normX r), true) else (⟨m.most, m.l, m.all + 1, m.met⟩, 0, false)) else (m, 0, false)
noncomputable def MM.put (m : MM) (r : Rx) : MM × Int × Bool :=
  if mayR r = true then (if 0 ≤ placeI m.l (normX r) then (⟨m.most, m.l, m.all + 1, m.met + 1⟩, placeI m.l (normX r), true)
    else if m.most ≤ m.l.length then (⟨m.most, m.l, m.all + 1, m.met⟩, 0, false) else (⟨m.most, m.l ++ [normX r], m.all + 1, m.met⟩, (m.l.length : Int), true)) else (m, 0, false)
noncomputable def MM.puts (m : MM) (l : List Rx) : MM × Int × Bool := l.foldl (fun s r => s.1.put r) (m, 0, false)
def MM.at (m : MM) (i : Int) : Rx × Bool := if 0 ≤ i ∧ i < (m.l.length : Int) then ((m.l[i.toNat]?).getD (.node 0 Ws.nil []), true) else (.node 0 Ws.nil [], false)
theorem placeI_hit {l : List Rx} {x : Rx} {i : Nat} (hi : i < l.length) (h0 : ∀ j, j < i → hitB l x j = false) (h1 : hitB l x i = true) : placeI l x = (i : Int) := fstI_hit hi h0 h1
theorem hitB_iff {l : List Rx} {x : Rx} {j : Nat} : hitB l x j = true ↔ l[j]? = some x := by
  unfold hitB
  cases h : l[j]? with
  | none => simp
  | some y => simp [sameR_iff]
theorem placeI_cases (l : List Rx) (x : Rx) : (∃ i : Nat, placeI l x = (i : Int) ∧ i < l.length ∧ l[i]? = some x ∧ ∀ j, j < i → l[j]? ≠ some x) ∨ (placeI l x = -1 ∧ x ∉ l) := by
  unfold placeI fstI
  cases h : (List.range l.length).find? (hitB l x) with
  | some i =>
    rw [List.find?_range_eq_some] at h
    obtain ⟨h1, h2, h3⟩ := h
    refine .inl ⟨i, rfl, by simpa using h2, hitB_iff.1 (by simpa using h1), fun j hj e => ?_⟩
    have := h3 j hj
    rw [hitB_iff.2 e] at this
    cases this
  | none =>
    rw [List.find?_eq_none] at h
    refine .inr ⟨rfl, fun hx => ?_⟩
    obtain ⟨j, hj, e⟩ := List.getElem_of_mem hx
    exact h j (List.mem_range.2 hj) (hitB_iff.2 (by rw [List.getElem?_eq_getElem hj, e]))
theorem placeI_of {l : List Rx} {x : Rx} {i : Nat} (h1 : l[i]? = some x) (h0 : ∀ j, j < i → l[j]? ≠ some x) : placeI l x = (i : Int) := by
  refine placeI_hit (List.getElem?_eq_some_iff.1 h1).1 (fun j hj => ?_) (hitB_iff.2 h1)
  cases hh : hitB l x j with
  | false => rfl
  | true => exact absurd (hitB_iff.1 hh) (h0 j hj)
theorem placeI_not {l : List Rx} {x : Rx} (h : x ∉ l) : placeI l x = -1 := by
  rcases placeI_cases l x with ⟨i, _, h1, h2, _⟩ | ⟨h1, _⟩
  · exact absurd (List.mem_of_getElem? h2) h
  · exact h1
structure MM.Ok (m : MM) (n : Nat) : Prop where
  most : m.most ≤ 10000
  len : m.l.length ≤ m.most
  all : m.all ≤ n
  met : m.met ≤ m.all
  form : ∀ x ∈ m.l, ∃ r, mayR r = true ∧ normX r = x
  nodup : m.l.Nodup
theorem MM.new_ok (room : Int) : (MM.new room).Ok 0 := ⟨Nat.min_le_right _ _, Nat.zero_le _, Nat.le_refl _, Nat.le_refl _, fun x h => absurd h (by simp [MM.new]), List.nodup_nil⟩
theorem MM.Ok.mono {m : MM} {n k : Nat} (h : m.Ok n) (hk : n ≤ k) : m.Ok k := ⟨h.most, h.len, Nat.le_trans h.all hk, h.met, h.form, h.nodup⟩
theorem MM.Ok.find {m : MM} {n : Nat} (h : m.Ok n) (r : Rx) : (m.find r).1.Ok (n + 1) := by
  have h1 := h.all
  have h2 := h.met
  unfold MM.find
  split
  · split
    · exact ⟨h.most, h.len, Nat.succ_le_succ h1, Nat.succ_le_succ h2, h.form, h.nodup⟩
    · exact ⟨h.most, h.len, Nat.succ_le_succ h1, Nat.le_succ_of_le h2, h.form, h.nodup⟩
  · exact h.mono (Nat.le_succ _)
theorem MM.Ok.put {m : MM} {n : Nat} (h : m.Ok n) (r : Rx) : (m.put r).1.Ok (n + 1) := by
  have h1 := h.all
  have h2 := h.met
  unfold MM.put
  split
  · rename_i hm
    split
    · exact ⟨h.most, h.len, Nat.succ_le_succ h1, Nat.succ_le_succ h2, h.form, h.nodup⟩
    · rename_i hp
      split
      · exact ⟨h.most, h.len, Nat.succ_le_succ h1, Nat.le_succ_of_le h2, h.form, h.nodup⟩
      · rename_i hl
        have hn : normX r ∉ m.l := by
          rcases placeI_cases m.l (normX r) with ⟨i, e, _⟩ | ⟨_, h⟩
          · rw [e] at hp; omega
          · exact h
        refine ⟨h.most, ?_, Nat.succ_le_succ h1, Nat.le_succ_of_le h2, ?_, ?_⟩
        · simp; omega
        · intro x hx
          rcases List.mem_append.1 hx with hx | hx
          · exact h.form x hx
          · simp at hx
            exact ⟨r, hm, hx.symm⟩
        · rw [List.nodup_append]
          refine ⟨h.nodup, by simp, ?_⟩
          intro a ha b hb e
          simp at hb
          subst hb
          subst e
          exact hn ha
  · exact h.mono (Nat.le_succ _)
theorem list_snoc {α : Type} {p : List α → Prop} (h0 : p []) (h1 : ∀ l r, p l → p (l ++ [r])) (l : List α) : p l := by
  rw [← List.reverse_reverse l]
  induction l.reverse with
  | nil => exact h0
  | cons a t ih => rw [List.reverse_cons]; exact h1 _ _ ih
theorem MM.puts_snoc (m : MM) (l : List Rx) (r : Rx) : m.puts (l ++ [r]) = (m.puts l).1.put r := by simp [MM.puts, List.foldl_append]
theorem MM.Ok.puts {m : MM} {n : Nat} (h : m.Ok n) : ∀ l : List Rx, (m.puts l).1.Ok (n + l.length) := by
  intro l
  induction l using list_snoc with
  | h0 => exact h
  | h1 l r ih =>
    rw [MM.puts_snoc, List.length_append]
    exact ih.put r
theorem MM.put_l (m : MM) (r : Rx) : (∃ t, (m.put r).1.l = m.l ++ t) ∧ (m.put r).1.most = m.most := by
  unfold MM.put
  split
  · split
    · exact ⟨⟨[], by simp⟩, rfl⟩
    · split
      · exact ⟨⟨[], by simp⟩, rfl⟩
      · exact ⟨⟨_, rfl⟩, rfl⟩
  · exact ⟨⟨[], by simp⟩, rfl⟩
theorem MM.puts_l (m : MM) (l : List Rx) : (∃ t, (m.puts l).1.l = m.l ++ t) ∧ (m.puts l).1.most = m.most := by
  induction l using list_snoc with
  | h0 => exact ⟨⟨[], by simp [MM.puts]⟩, rfl⟩
  | h1 l r ih =>
    rw [MM.puts_snoc]
    obtain ⟨⟨t, ht⟩, hm⟩ := ih
    obtain ⟨⟨u, hu⟩, hm'⟩ := MM.put_l (m.puts l).1 r
    exact ⟨⟨t ++ u, by rw [hu, ht, List.append_assoc]⟩, hm'.trans hm⟩
theorem MM.at_none (m : MM) {i : Int} (h : ¬ (0 ≤ i ∧ i < (m.l.length : Int))) : m.at i = (.node 0 Ws.nil [], false) := by unfold MM.at; rw [if_neg h]
theorem MM.at_some (m : MM) {i : Int} (h : 0 ≤ i ∧ i < (m.l.length : Int)) : ∃ x, m.l[i.toNat]? = some x ∧ m.at i = (x, true) := by
  unfold MM.at
  rw [if_pos h]
  have hl : i.toNat < m.l.length := by omega
  exact ⟨m.l[i.toNat], List.getElem?_eq_getElem hl, by rw [List.getElem?_eq_getElem hl]; rfl⟩
open Go.RowKit
def RdB (w : World) (D : Nat) (s : ByteArray) (k : Nat) (vl : Value) : Prop := w.heap[D]? = some (.cells #[.string s, .int .i64 k, vl] 111 (0, 0))
theorem RdB.lt {w : World} {D : Nat} {s : ByteArray} {k : Nat} {vl : Value} (h : RdB w D s k vl) : D < w.heap.size := (Array.getElem?_eq_some_iff.1 h).1
theorem RdB.cells {w : World} {D : Nat} {s : ByteArray} {k : Nat} {vl : Value} (h : RdB w D s k vl) : w.cell? ⟨D, 0, none⟩ = some (.string s) ∧ w.cell? ⟨D, 1, none⟩ = some (.int .i64 k) ∧ w.cell? ⟨D, 2, none⟩ = some vl := by
  unfold RdB at h
  refine ⟨?_, ?_, ?_⟩ <;> (rw [Lib.cell_of_heap h]; rfl)
theorem RdB.frozen {w : World} {D : Nat} {s : ByteArray} {k : Nat} {vl : Value} (h : RdB w D s k vl) : w.frozen? ⟨D, 0, none⟩ = false ∧ w.frozen? ⟨D, 1, none⟩ = false ∧ w.frozen? ⟨D, 2, none⟩ = false :=
  ⟨Lib.frozen_of_heap h 0, Lib.frozen_of_heap h 1, Lib.frozen_of_heap h 2⟩
theorem RdB.of {w w' : World} {D : Nat} {s : ByteArray} {k : Nat} {vl : Value} (h : RdB w D s k vl) (e : w'.heap[D]? = w.heap[D]?) : RdB w' D s k vl := e.trans h
theorem RdB.below {w w' : World} {D : Nat} {s : ByteArray} {k : Nat} {vl : Value} (h : RdB w D s k vl) (hb : Below w.heap.size w w') : RdB w' D s k vl := h.of (hb.block D h.lt)
theorem RdB.go {w : World} {D : Nat} {s : ByteArray} {k : Nat} {vl : Value} (h : RdB w D s k vl) (j : Nat) : RdB (w.setCell ⟨D, 1, none⟩ (.int .i64 (j : Int))) D s j vl := by
  unfold RdB at h ⊢
  simp [World.setCell, Array.getElem?_modify, h]
theorem RdB.lay {w : World} {D : Nat} {s : ByteArray} {k : Nat} {vl : Value} (h : RdB w D s k vl) (u : Value) : RdB (w.setCell ⟨D, 2, none⟩ u) D s k u := by
  unfold RdB at h ⊢
  simp [World.setCell, Array.getElem?_modify, h]
def thr (k : Nat) : Ending := .panicked [{ v := .iface 86 (.int .i64 k), recovered := false }]
theorem must_yes (p : Value) (w : World) : Calls Tryz.prog 52 #[p, .bool true] w fun e w' => e = .returned (.tuple #[]) ∧ w' = w := by
  go_enter Tryz.func52, Tryz.ntmps52
  go_wp2
  go_end0
  exact ⟨rfl, rfl⟩
theorem must_no {w : World} {D : Nat} {s : ByteArray} {k : Nat} {vl : Value} (h : RdB w D s k vl) : Calls Tryz.prog 52 #[.pointer (some ⟨D, 0, none⟩), .bool false] w fun e w' => e = thr k ∧ w' = w := by
  obtain ⟨c0, c1, c2⟩ := h.cells
  go_enter Tryz.func52, Tryz.ntmps52
  go_wp2
  exact ⟨rfl, rfl, rfl⟩
def frS (l : List UInt8) : ByteArray := ⟨(l.take 1).toArray⟩
theorem frS_ext (s : ByteArray) (k j : Nat) (hj : j = k + 1 ∨ (j = k ∧ s.size ≤ k)) : s.extract k j = frS (tl s k) := by
  apply ByteArray.ext
  unfold frS tl
  rw [ByteArray.data_extract]
  apply Array.ext'
  rw [Array.toList_extract, List.extract_eq_take_drop]
  rcases hj with rfl | ⟨rfl, h⟩
  · simp
  · rw [List.drop_eq_nil_of_le (by simpa using h)]; simp
set_option maxHeartbeats 1000000 in
theorem front_any {w : World} {D : Nat} {s : ByteArray} {k : Nat} {vl : Value} (h : RdB w D s k vl) (hs : s.size ≤ 1000000000) (hk : k ≤ s.size) : Calls Tryz.prog 75 #[.pointer (some ⟨D, 0, none⟩)] w fun e w' => e = .returned (.string (frS (tl s k))) ∧ Below w.heap.size w w' := by
  obtain ⟨c0, c1, c2⟩ := h.cells
  have wk : IntKind.i64.wrap ((k : Int) + 1) = (k : Int) + 1 := by rw [IntKind.wrap_i64]; omega
  clear h
  by_cases hlt : k < s.size
  · have q1 : (k : Int) + 1 ≤ (s.size : Int) := by omega
    have q2 : ((k : Int) + 1).toNat = k + 1 := by omega
    have hm : min ((k : Int) + 1) (s.size : Int) = (k : Int) + 1 := by omega
    go_enter Tryz.func75, Tryz.ntmps75
    go_wp2
    go_quiet (fail)
    go_wp2
    go_ret
    exact ⟨by rw [frS_ext s k (k + 1) (.inl rfl)]; rfl, below_drewN (Below.refl _ _) _⟩
  · have hke : k = s.size := by omega
    subst hke
    have hm : min ((s.size : Int) + 1) (s.size : Int) = (s.size : Int) := by omega
    go_enter Tryz.func75, Tryz.ntmps75
    go_wp2
    go_quiet (fail)
    go_wp2
    go_ret
    exact ⟨by rw [tl_nil s _ (Nat.le_refl _)]; rfl, below_drewN (Below.refl _ _) _⟩
set_option maxHeartbeats 1000000 in
theorem top_any {w : World} {D : Nat} {s : ByteArray} {k g n cap : Nat} (h : RdB w D s k (.slice (some ⟨g, 0, none⟩) (n + 1) cap)) (hn : n < 1000000000) : Calls Tryz.prog 86 #[.pointer (some ⟨D, 0, none⟩)] w fun e w' => e = .returned (.pointer (some ⟨g, n * 2, none⟩)) ∧ Below w.heap.size w w' := by
  obtain ⟨c0, c1, c2⟩ := h.cells
  have q1 : ((n + 1 : Nat) : Int) - 1 = (n : Int) := by omega
  have wk : IntKind.i64.wrap (n : Int) = (n : Int) := by rw [IntKind.wrap_i64]; omega
  clear h
  go_enter Tryz.func86, Tryz.ntmps86
  go_wp2
  go_quiet (fail)
  go_wp2
  go_ret
  exact ⟨rfl, below_drewN (Below.refl _ _) _⟩
end Go.Proofs.YthgghaaddankoaaGreatDoor
/- Lemmas of mine. -/
namespace Go.Proofs.YthgghaaddankoaaGreatDoor
theorem MM.puts_one (m : MM) (r : Rx) : m.puts [r] = m.put r := by simp [MM.puts]
theorem MM.find_no (m : MM) (r : Rx) (h : (m.find r).2.2 = false) : (m.find r).2.1 = 0 := by
  unfold MM.find at h ⊢
  split
  · rename_i hm
    rw [if_pos hm] at h
    split
    · rename_i hz
      rw [if_pos hz] at h
      cases h
    · rfl
  · rfl
theorem MM.put_first (room : Int) (r : Rx) : ((MM.new room).put r).2.1 = 0 ∧ (((MM.new room).put r).2.2 = true → ((MM.new room).put r).1.l = [normX r] ∧ mayR r = true) := by
  unfold MM.put
  cases hm : mayR r with
  | false => rw [if_neg (by decide)]; exact ⟨rfl, fun h => by cases h⟩
  | true =>
    rw [if_pos rfl, show (MM.new room).l = [] from rfl, placeI_not (by simp), if_neg (by decide)]
    split
    · exact ⟨rfl, fun h => by cases h⟩
    · exact ⟨rfl, fun _ => ⟨rfl, rfl⟩⟩
theorem MM.find_head {m : MM} {r : Rx} {t : List Rx} (h : m.l = normX r :: t) (hm : mayR r = true) : (m.find r).2.1 = 0 ∧ (m.find r).2.2 = true ∧ (m.find r).1.l = m.l := by
  have hp : placeI m.l (normX r) = ((0 : Nat) : Int) := placeI_of (by rw [h]; rfl) fun j hj => absurd hj (Nat.not_lt_zero _)
  unfold MM.find
  rw [if_pos hm, hp, if_pos (by decide)]
  exact ⟨rfl, rfl, rfl⟩
theorem MM.at_head {m : MM} {x : Rx} {t : List Rx} (h : m.l = x :: t) : m.at 0 = (x, true) := by
  unfold MM.at
  rw [h, if_pos ⟨Int.le_refl _, by simp⟩]
  rfl
open Go.RowKit
set_option maxRecDepth 100000 in
set_option maxHeartbeats 4000000 in
theorem assert_mis (x : Value) (w : World) : (Instr.typeAssert (.iface 86 x) 20 86 true).run Tryz.prog w = .ok (.tuple #[x, .bool true]) w := by kernel_rfl
set_option maxRecDepth 100000 in
set_option maxHeartbeats 4000000 in
theorem assert_err (x : Value) (w : World) : (Instr.typeAssert (.iface 56 x) 20 56 true).run Tryz.prog w = .ok (.tuple #[x, .bool true]) w := by kernel_rfl
set_option maxRecDepth 100000 in
set_option maxHeartbeats 4000000 in
theorem assert_not (x : Value) (w : World) : (Instr.typeAssert (.iface 56 x) 20 86 true).run Tryz.prog w = .ok (.tuple #[.int .i64 0, .bool false]) w := by kernel_rfl
theorem rep15 : (Array.replicate 15 undef : Array Value) = #[undef, undef, undef, undef, undef, undef, undef, undef, undef, undef, undef, undef, undef, undef, undef] := rfl
set_option maxRecDepth 100000 in
set_option maxHeartbeats 4000000 in
theorem catch_idle (p q : Addr) (w : World) :
    CallsD Tryz.prog 36 #[.pointer (some p), .pointer (some q)] .returning w fun e u' w' => e = .returned (.tuple #[]) ∧ u' = .returning ∧ w' = w := by
  refine callsD_of_wpS Tryz.func36 rfl fun c₀ cs hu => ?_
  apply wpS_seq
  apply wpS_region
  simp [wpOpsS, go_sem, recoverD, hu, Tryz.ntmps36, Exit.thenS]
  simp only [rep15, List.setIfInBounds_toArray, List.set_cons_succ, List.set_cons_zero, List.append_toArray, List.cons_append, List.nil_append]
  refine wpS_of_wp ?_
  go_wp2
  cases c₀
  simp_all [bodyPostS, results, Tryz.results36]
set_option maxRecDepth 100000 in
set_option maxHeartbeats 4000000 in
theorem catch_form (g h : Nat) (k : Nat) (a b : Value) (older : List PanicEntry) (w : World) (ha : w.cell? ⟨g, 0, none⟩ = some a) (hb : w.cell? ⟨h, 0, none⟩ = some b) (fa : w.frozen? ⟨g, 0, none⟩ = false) (fb : w.frozen? ⟨h, 0, none⟩ = false) (hpq' : ¬ g = h) :
    CallsD Tryz.prog 36 #[.pointer (some ⟨g, 0, none⟩), .pointer (some ⟨h, 0, none⟩)] (.panicking ({ v := .iface 86 (.int .i64 k), recovered := false } :: older)) w fun e u' w' =>
      e = .returned (.tuple #[]) ∧ u' = .panicking ({ v := .iface 86 (.int .i64 k), recovered := true } :: older) ∧ w' = (w.setCell ⟨g, 0, none⟩ (.int .i64 k)).setCell ⟨h, 0, none⟩ (.int .i64 2) := by
  refine callsD_of_wpS Tryz.func36 rfl fun c₀ cs hu => ?_
  have h1 := assert_mis
  apply wpS_seq
  apply wpS_region
  simp [wpOpsS, go_sem, recoverD, hu, Tryz.ntmps36, Exit.thenS]
  simp only [rep15, List.setIfInBounds_toArray, List.set_cons_succ, List.set_cons_zero, List.append_toArray, List.cons_append, List.nil_append]
  refine wpS_of_wp ?_
  go_wp2
  simp [bodyPostS, results, Tryz.results36]
set_option maxRecDepth 100000 in
set_option maxHeartbeats 4000000 in
theorem catch_err (g h : Nat) (k : Nat) (b : Value) (older : List PanicEntry) (w : World) (hb : w.cell? ⟨h, 0, none⟩ = some b) (fb : w.frozen? ⟨h, 0, none⟩ = false) :
    CallsD Tryz.prog 36 #[.pointer (some ⟨g, 0, none⟩), .pointer (some ⟨h, 0, none⟩)] (.panicking ({ v := .iface 56 (.int .i64 k), recovered := false } :: older)) w fun e u' w' =>
      e = .returned (.tuple #[]) ∧ u' = .panicking ({ v := .iface 56 (.int .i64 k), recovered := true } :: older) ∧ w' = w.setCell ⟨h, 0, none⟩ (.int .i64 k) := by
  refine callsD_of_wpS Tryz.func36 rfl fun c₀ cs hu => ?_
  have h1 := assert_err
  have h2 := assert_not
  apply wpS_seq
  apply wpS_region
  simp [wpOpsS, go_sem, recoverD, hu, Tryz.ntmps36, Exit.thenS]
  simp only [rep15, List.setIfInBounds_toArray, List.set_cons_succ, List.set_cons_zero, List.append_toArray, List.cons_append, List.nil_append]
  refine wpS_of_wp ?_
  go_wp2
  simp [bodyPostS, results, Tryz.results36]
end Go.Proofs.YthgghaaddankoaaGreatDoor
