/- Lemmas of mine, merged: QPRexJ, QPRexK, QPRexL, QPRexN, QPRexP, QPRexS, QPRexU, QPNullB, QPNormX, QPMemM, QPRdrA, QPOrdD, QPOrkE, QPNorkB, QPNormC0, QPNorkC, QPNorkD, QPMemR, QPMemF, QPMemP, QPRdrQ. -/
import Derived.Test.YthgghaaddankoaaGreatDoorQPRexEAll
import Derived.Test.YthgghaaddankoaaGreatDoorQPSetCAll
import Derived.StillTailTactics
import Derived.IntWalk
import Derived.OwnWalk
import Derived.Test.YthgghaaddankoaaGreatDoorQPRexBAll
import Derived.RegionTactic
import Derived.Deep.RegionHeld3
import Derived.Test.YthgghaaddankoaaGreatDoorQPFstIAll
import Derived.WalkKit
import Derived.WalkSpells
import Derived.WalkLawsBesides
import Derived.Lib.OthersKept
import Derived.Lib.Hide
import Derived.Deep.QuietTactic
import Derived.Laws.DeepStrings4
import Derived.BigQuiet
import Derived.BigRegion
import Derived.Recover
import Derived.Test.YthgghaaddankoaaGreatDoorRows
import Derived.Test.YthgghaaddankoaaGreatDoorQPSetEAll
import Derived.Test.YthgghaaddankoaaGreatDoorQPSetAAll
import Derived.Test.YthgghaaddankoaaGreatDoorQPAnyOrdTAll
import Derived.Defers
/- Lemmas of mine. -/
namespace Go.Proofs.YthgghaaddankoaaGreatDoor
open Go.RowKit
theorem refSame {ok ok' : Nat → Prop} (r t : Rx) (v u : Value) (w : World) (h : ReAt ok w v r) (h' : ReAt ok' w u t) :
    Calls Tryz.prog 17 #[v, u] w fun e w' => e = .returned (.bool (sameR r t)) ∧ Below w.heap.size w w' := refSame_any r.size r t (Nat.le_refl _) v u w h h'
open Go.RowKit
structure But (g B : Nat) (w w' : World) : Prop where
  os : w'.os = w.os
  tape : w'.tape = w.tape
  output : w'.output = w.output
  size : w.heap.size ≤ w'.heap.size
  block : ∀ k, k < B → k ≠ g → w'.heap[k]? = w.heap[k]?
theorem But.refl (g B : Nat) (w : World) : But g B w w := ⟨rfl, rfl, rfl, Nat.le_refl _, fun _ _ _ => rfl⟩
theorem But.trans {g B : Nat} {a b c : World} (h : But g B a b) (k : But g B b c) : But g B a c :=
  ⟨k.os.trans h.os, k.tape.trans h.tape, k.output.trans h.output, Nat.le_trans h.size k.size, fun i hi hg => (k.block i hi hg).trans (h.block i hi hg)⟩
theorem But.mono {g B B' : Nat} {w w' : World} (h : But g B w w') (hB : B' ≤ B) : But g B' w w' := ⟨h.os, h.tape, h.output, h.size, fun k hk hg => h.block k (Nat.lt_of_lt_of_le hk hB) hg⟩
theorem But.of {g B : Nat} {w w' : World} (h : Below B w w') : But g B w w' := ⟨h.os, h.tape, h.output, h.size, fun k hk _ => h.block k hk⟩
theorem But.below {g B : Nat} {w w' : World} (h : But g B w w') (hB : B ≤ g) : Below B w w' := ⟨h.os, h.tape, h.output, h.size, fun k hk => h.block k hk (by omega)⟩
theorem But.set {g B : Nat} {w w' : World} (h : But g B w w') (o : Nat) (v : Value) : But g B w (w'.setCell ⟨g, o, none⟩ v) :=
  h.trans ⟨rfl, rfl, rfl, by simp [World.setCell], fun k _ hg => Below.heap_setCell _ _ _ _ hg⟩
theorem But.kept {g : Nat} {w w' : World} {ok : Nat → Prop} (h : But g w.heap.size w w') (hok : ∀ b, ok b → b ≠ g) : Kept ok ok w w' := ⟨h.size, fun b h1 h2 => ⟨h2, h.block b h1 (hok b h2)⟩⟩
def Left (w : World) (g : Nat) (z : Int) : Prop := w.heap[g]? = some (.cells #[.int .i64 z] 3)
theorem Left.cells {w : World} {g : Nat} {z : Int} (h : Left w g z) : w.cell? ⟨g, 0, none⟩ = some (.int .i64 z) ∧ w.frozen? ⟨g, 0, none⟩ = false := by
  unfold Left at h; exact ⟨by rw [Lib.cell_of_heap h]; rfl, Lib.frozen_of_heap h 0⟩
theorem Left.lt {w : World} {g : Nat} {z : Int} (h : Left w g z) : g < w.heap.size := (Array.getElem?_eq_some_iff.1 h).1
theorem Left.set {w : World} {g : Nat} {z : Int} (h : Left w g z) (y : Int) : Left (w.setCell ⟨g, 0, none⟩ (.int .i64 y)) g y := by
  unfold Left at h ⊢; simp [World.setCell, Array.getElem?_modify, h]
def MayPost (q : Bool) (n m g : Nat) (w : World) (e : Ending) (w' : World) : Prop := e = .returned (.bool q) ∧ (∃ z : Int, Left w' g z ∧ (q = true → z = (n : Int) - m)) ∧ But g w.heap.size w w'
def MayAt (ok : Nat → Prop) (g N : Nat) : Prop := ∀ (r : Rx), r.size ≤ N → ∀ (n : Nat) (v : Value) (w : World), n ≤ 2000 → Left w g n → ReAt ok w v r →
    Calls Tryz.prog 40 #[v, .pointer (some ⟨g, 0, none⟩)] w (MayPost (mayN r n) n r.size g w)
def PtrAt (w : World) (gb g : Nat) : Prop := w.heap[gb]? = some (.cells #[.pointer (some ⟨g, 0, none⟩)] 90)
theorem PtrAt.cell {w : World} {gb g : Nat} (h : PtrAt w gb g) : w.cell? ⟨gb, 0, none⟩ = some (.pointer (some ⟨g, 0, none⟩)) := by
  unfold PtrAt at h; rw [Lib.cell_of_heap h]; rfl
theorem PtrAt.lt {w : World} {gb g : Nat} (h : PtrAt w gb g) : gb < w.heap.size := (Array.getElem?_eq_some_iff.1 h).1
set_option maxHeartbeats 1000000 in
theorem closure_of {ok : Nat → Prop} {g N : Nat} (ih : MayAt ok g N) (r : Rx) (hr : r.size ≤ N) (n gb : Nat) (v : Value) (w : World) (hn : n ≤ 2000) (hL : Left w g n) (hP : PtrAt w gb g) (h : ReAt ok w v r) :
    Calls Tryz.prog 56 #[v, .pointer (some ⟨gb, 0, none⟩)] w (fun e w' => e = .returned (.bool (!mayN r n)) ∧ (∃ z : Int, Left w' g z ∧ (mayN r n = true → z = (n : Int) - r.size)) ∧ But g w.heap.size w w') := by
  have K := Lib.hid fun W (hb : Below w.heap.size w W) => ih r hr n v W hn ((hb.block _ hL.lt).trans hL) (h.below hb); obtain ⟨x0, x1, x2, x3, x4, bl, n', cp, rfl⟩ := cells_re h; have c := hP.cell; have hlt := hP.lt; clear ih h hL hP; generalize mayN r n = q at *; go_enter Tryz.func56, Tryz.ntmps56; go_wp2_with fail; refine (K.out _ ((Below.refl _ w).alloc (Nat.le_refl _) _)).mono ?_; rintro e w1 ⟨rfl, hz, hb⟩; have HZ := Lib.hid hz; have HB : But g w.heap.size w w1 := (But.of ((Below.refl _ w).alloc (Nat.le_refl _) _)).trans (hb.mono (by simp)); clear hz hb; go_wp2; go_ret; exact ⟨rfl, HZ.out, HB⟩
open Go.RowKit
def idxInv (l : List Rx) (n g gb : Nat) (w : World) (y : Value) (wr : World) : Prop := ∃ i m : Nat, i ≤ l.length ∧ y = .int .i64 i ∧ mayNs (l.take i) n = true ∧ m = n - Rx.sizes (l.take i) ∧ Left wr g m ∧ PtrAt wr gb g ∧ But g w.heap.size w wr
def IdxPost (q : Bool) (n m g : Nat) (w : World) (e : Ending) (w' : World) : Prop := ∃ x : Int, decide (0 ≤ x) = !q ∧ e = .returned (.int .i64 x) ∧ (∃ z : Int, Left w' g z ∧ (q = true → z = (n : Int) - m)) ∧ But g w.heap.size w w'
theorem mayNs_le {l : List Rx} {n : Nat} (h : mayNs l n = true) : Rx.sizes l ≤ n := by
  simp [mayNs] at h; omega
set_option maxHeartbeats 4000000 in
theorem index_of {ok : Nat → Prop} {g N : Nat} (hok : ∀ b, ok b → b ≠ g) (ih : MayAt ok g N) (l : List Rx) (hN : Rx.sizes l ≤ N) (n gb : Nat) (al : Option Addr) (cap : Nat) (w : World) (hn : n ≤ 2000) (hl : l.length < 2199023255552) (hgb : gb ≠ g) (hL : Left w g n) (hP : PtrAt w gb g) (hR : RowAt ok w al l) :
    Calls Tryz.prog 54 #[.slice al l.length cap, .func (.func 56) #[] #[.pointer (some ⟨gb, 0, none⟩)]] w (IdxPost (mayNs l n) n (Rx.sizes l) g w) := by
  have HI := Lib.hid ih; have HR := Lib.hid hR; have HL := Lib.hid hL; have HP := Lib.hid hP; clear ih hR hL hP; go_enter Tryz.func54, Tryz.ntmps54; go_wp2
  go_loopw [8] (fun y wr => idxInv l n g gb w y wr) (fun y _ => l.length - (intOf y).toNat)
  case atStart => exact ⟨0, n, Nat.zero_le _, rfl, by simp [mayNs, goodRs, Rx.sizes], by simp [Rx.sizes], HL.out, HP.out, But.refl _ _ _⟩
  case round =>
    obtain ⟨i, m, hi, rfl, hmay, hm, hleft, hptr, hb⟩ := hrel; have HM := Lib.hid hm; have HY := Lib.hid hmay; have HLe := Lib.hid hleft; have HPt := Lib.hid hptr; (have hmn : m ≤ 2000 := by omega); clear hm hmay hleft hptr HL HP
    by_cases hlt : i < l.length
    · obtain ⟨b, off, hab, hblt, hbok, hnode⟩ := HR.out.kidOk hlt; subst hab; have hkid := NodeAt.go (hb.kept hok) _ (hb.block b hblt (hok b hbok)) hnode; have hkz := size_kid hlt; have HS1 := fun h => mayNs_step (n := n) hlt HY.out h; have HS2 := fun h => mayNs_stop (n := n) hlt HY.out h; have htk := sizes_take l i hlt; rw [← HM.out] at HS1 HS2; (have hsm : mayN l[i] m = true → l[i].size ≤ m := fun h => by simp [mayN] at h; omega); clear hnode; generalize l[i] = kid at *; obtain ⟨k', ⟨ta, tb, tc, td⟩, ks'⟩ := kid; obtain ⟨al', cap', ⟨c0, c1, c2, c3, c4, c5⟩, hre⟩ := hkid.read; simp only at c0 c1 c2 c3 c4 c5; have K := Lib.hid (closure_of HI.out _ (Nat.le_trans hkz hN) m gb _ wr hmn HLe.out HPt.out hre); generalize (Rx.node k' ⟨ta, tb, tc, td⟩ ks').size = z at *; generalize mayN (Rx.node k' ⟨ta, tb, tc, td⟩ ks') m = q at *; have T1 := Lib.hid HS1; have T2 := Lib.hid HS2; have T3 := Lib.hid htk; have T4 := Lib.hid hsm; clear hkid hre HS1 HS2 htk hsm; (have q1 : (i : Int) < (l.length : Int) := by omega); go_wp2_with fail; refine K.out.mono ?_; rintro e w1 ⟨rfl, ⟨x, hx, hxz⟩, hb1⟩; have HX := Lib.hid hx; have HXZ := Lib.hid hxz; have HP1 := Lib.hid (show PtrAt w1 gb g from (hb1.block _ HPt.out.lt hgb).trans HPt.out); replace hb := hb.trans (hb1.mono hb.size); clear hx hxz hb1 c0 c1 c2 c3 c4 c5
      cases q with
      | true =>
        go_wp2; refine ⟨⟨i + 1, m - z, by omega, by go_num, T1.out trivial, ?_, ?_, HP1.out, hb⟩, by simp [intOf]; omega⟩
        · have := T3.out; have := HM.out; omega
        · have h := HX.out; rw [HXZ.out trivial] at h; have := T4.out trivial; rw [show ((m - z : Nat) : Int) = (m : Int) - z from by omega]; exact h
      | false =>
        go_wp2; go_ret; refine ⟨i, ?_, rfl, ⟨x, HX.out, fun h => ?_⟩, hb⟩
        · rw [T2.out trivial]; simp
        · rw [T2.out trivial] at h; cases h
    · have he : l.take i = l := List.take_of_length_le (by omega); rw [he] at HY HM; go_wp2; go_ret; refine ⟨-1, ?_, rfl, ⟨m, HLe.out, fun _ => ?_⟩, hb⟩
      · rw [HY.out]; rfl
      · have := HM.out; have := mayNs_le HY.out; omega
theorem contains_of {ok : Nat → Prop} {g N : Nat} (hok : ∀ b, ok b → b ≠ g) (ih : MayAt ok g N) (l : List Rx) (hN : Rx.sizes l ≤ N) (n gb : Nat) (al : Option Addr) (cap : Nat) (w : World) (hn : n ≤ 2000) (hl : l.length < 2199023255552) (hgb : gb ≠ g) (hL : Left w g n) (hP : PtrAt w gb g) (hR : RowAt ok w al l) :
    Calls Tryz.prog 38 #[.slice al l.length cap, .func (.func 56) #[] #[.pointer (some ⟨gb, 0, none⟩)]] w fun e w' => e = .returned (.bool (!mayNs l n)) ∧ (∃ z : Int, Left w' g z ∧ (mayNs l n = true → z = (n : Int) - Rx.sizes l)) ∧ But g w.heap.size w w' := by
  have K := Lib.hid (index_of hok ih l hN n gb al cap w hn hl hgb hL hP hR); clear ih hL hP hR; generalize mayNs l n = q at *; go_enter Tryz.func38, Tryz.ntmps38; go_wp2_with fail; refine K.out.mono ?_; rintro e w1 ⟨x, hx, rfl, hz, hb⟩; have HX := Lib.hid hx; have HZ := Lib.hid hz; clear hx hz; go_wp2; go_ret; exact ⟨by rw [← HX.out]; rfl, HZ.out, hb⟩
theorem mayN_node (k : Nat) (s : Ws) (ks : List Rx) (n : Nat) : mayN (.node k s ks) n = (decide (0 < n) && (nodeGood k ks.length (bareB s) && mayNs ks (n - 1))) := by
  unfold mayN mayNs goodR Rx.size
  by_cases h : 0 < n
  · (have e : decide (1 + Rx.sizes ks ≤ n) = decide (Rx.sizes ks ≤ n - 1) := by rw [decide_eq_decide]; omega); rw [e]; simp [h, Bool.and_assoc]
  · (have e : decide (1 + Rx.sizes ks ≤ n) = false := by simp; omega); rw [e]; simp [h]
def mayW (w : World) (g : Nat) (z : Int) (o : Obj) : World := ((w.setCell ⟨g, 0, none⟩ (.int .i64 z)).alloc o).alloc (.cells #[.pointer (some ⟨g, 0, none⟩)] 90)
theorem mayW_facts {w : World} {g : Nat} {y : Int} (h : Left w g y) (z : Int) (o : Obj) :
    Left (mayW w g z o) g z ∧ PtrAt (mayW w g z o) (w.heap.size + 1) g ∧ (mayW w g z o).heap[w.heap.size]? = some o ∧ But g w.heap.size w (mayW w g z o) ∧ (mayW w g z o).heap.size = w.heap.size + 2 := by
  have hg := h.lt; (have hs : (w.setCell ⟨g, 0, none⟩ (.int .i64 z)).heap.size = w.heap.size := by simp [World.setCell]); refine ⟨(Below.heap_alloc _ _ _ (by rw [World.size_alloc, hs]; omega)).trans ((Below.heap_alloc _ _ _ (by rw [hs]; exact hg)).trans (h.set z)), blk_at _ _ (by rw [World.size_alloc, hs]), (Below.heap_alloc _ _ _ (by rw [World.size_alloc, hs]; omega)).trans (blk_at _ _ hs.symm), ?_, ?_⟩
  · exact ((But.refl g w.heap.size w).set 0 _).trans (But.of (((Below.refl _ _).alloc (by rw [hs]; exact Nat.le_refl _) _).alloc (by rw [World.size_alloc, hs]; omega) _))
  · unfold mayW; rw [World.size_alloc, World.size_alloc, hs]
set_option maxHeartbeats 4000000 in
theorem nodesMay_all {ok : Nat → Prop} {g : Nat} (hok : ∀ b, ok b → b ≠ g) (N : Nat) : MayAt ok g N := by
  induction N with
  | zero => intro r h; have := r.size_pos; omega
  | succ N ih =>
    rintro ⟨k, s, ks⟩ hN n v w hn hL hR; obtain ⟨hk, hs, al, cap, rfl, hcap, hmax, hrow⟩ := hR; (have hN' : Rx.sizes ks ≤ N := by simp [Rx.size] at hN; omega); rw [mayN_node]; have hg := hL.lt; obtain ⟨c, f⟩ := hL.cells; have HL := Lib.hid hL; have KB := Lib.hid fun W => nodeMay_any k s ks.length al cap W hk hmax; have KC := Lib.hid fun (m gb : Nat) (W : World) (hm : m ≤ 2000) (hgb : gb ≠ g) (hL : Left W g m) (hP : PtrAt W gb g) (hb : But g w.heap.size w W) => contains_of hok ih ks hN' m gb al cap W hm hmax hgb hL hP (hrow.go (hb.kept hok)); generalize nodeGood k ks.length (bareB s) = q at *; obtain ⟨sa, sb, sc, sd⟩ := s; have HSZ := Lib.hid (show (Rx.node k ⟨sa, sb, sc, sd⟩ ks).size = 1 + Rx.sizes ks from by simp [Rx.size]); clear ih hrow hN hL; simp only at KB; go_enter Tryz.func40, Tryz.ntmps40
    by_cases hn0 : n = 0
    · subst hn0; obtain ⟨m1, m2, m3, m4, m5⟩ := mayW_facts HL.out (-1) (.cells #[.int .u8 k, .int .u64 sa, .int .u64 sb, .int .u64 sc, .int .u64 sd, .slice al ks.length cap] 39); unfold mayW at m1 m4; have M1 := Lib.hid m1; have M4 := Lib.hid m4; clear m1 m2 m3 m4 m5; go_wp2; go_ret; exact ⟨by simp, ⟨-1, M1.out, fun h => by simp at h⟩, M4.out⟩
    · (have d1 : decide ((n : Int) - 1 < 0) = false := by simp; omega); (have d2 : decide (0 < n) = true := by simp; omega); have D2 := Lib.hid d2; obtain ⟨m1, m2, m3, m4, m5⟩ := mayW_facts HL.out ((n : Int) - 1) (.cells #[.int .u8 k, .int .u64 sa, .int .u64 sb, .int .u64 sc, .int .u64 sd, .slice al ks.length cap] 39); have M1 := Lib.hid m1; have M2 := Lib.hid m2; have M3 := Lib.hid m3; have M4 := Lib.hid m4; have M5 := Lib.hid m5; clear m1 m2 m3 m4 m5 d2; go_wp2_with fail; refine (KB.out _).mono ?_; rintro e w1 ⟨rfl, hb1⟩
      change Below (mayW w g ((n : Int) - 1) (.cells #[.int .u8 k, .int .u64 sa, .int .u64 sb, .int .u64 sc, .int .u64 sd, .slice al ks.length cap] 39)).heap.size (mayW w g ((n : Int) - 1) (.cells #[.int .u8 k, .int .u64 sa, .int .u64 sb, .int .u64 sc, .int .u64 sd, .slice al ks.length cap] 39)) w1 at hb1
      generalize mayW w g ((n : Int) - 1) (.cells #[.int .u8 k, .int .u64 sa, .int .u64 sb, .int .u64 sc, .int .u64 sd, .slice al ks.length cap] 39) = W at *; have hz := M5.out; have n1 : Left w1 g ((n : Int) - 1) := (hb1.block _ (by omega)).trans M1.out; have n2 : PtrAt w1 (w.heap.size + 1) g := (hb1.block _ (by omega)).trans M2.out; have n3 := (hb1.block w.heap.size (by omega)).trans M3.out; have n4 : But g w.heap.size w w1 := M4.out.trans (But.of (hb1.mono (by omega))); obtain ⟨g0, g1, g2, g3, g4, g5, p0, p1, p2, p3, p4, p5⟩ := cellsR n3; have N1 := Lib.hid n1; have N2 := Lib.hid n2; have N4 := Lib.hid n4; clear n1 n2 n3 n4 hb1 hz
      cases q with
      | false =>
        go_wp2; go_ret; exact ⟨by simp, ⟨(n : Int) - 1, N1.out, fun h => by simp at h⟩, N4.out⟩
      | true =>
        (have e1 : ((n - 1 : Nat) : Int) = (n : Int) - 1 := by omega); have K := Lib.hid (KC.out (n - 1) (w.heap.size + 1) w1 (by omega) (by omega) (by rw [e1]; exact N1.out) N2.out N4.out); clear e1; generalize mayNs ks (n - 1) = q at *; go_wp2_with fail; refine K.out.mono ?_; rintro e w2 ⟨rfl, ⟨z, hz, hzz⟩, hb2⟩; have HZ := Lib.hid hz; have HZZ := Lib.hid hzz; have hb3 : But g w.heap.size w w2 := N4.out.trans (hb2.mono N4.out.size); clear hz hzz hb2; go_wp2; go_ret; refine ⟨by rw [D2.out]; simp, ⟨z, HZ.out, fun h => ?_⟩, hb3⟩; rw [D2.out] at h; have := HZZ.out (by simpa using h); rw [this, HSZ.out]; omega
open Go.RowKit
set_option maxHeartbeats 1000000 in
theorem mayClosure_any {ok : Nat → Prop} (r : Rx) (v : Value) (w : World) (h : ReAt ok w v r) :
    Calls Tryz.prog 39 #[v] w fun e w' => e = .returned (.bool (!mayR r)) ∧ Below w.heap.size w w' := by
  have h' : ReAt (fun b => b < w.heap.size) w v r := h.imp fun b hb _ => hb; have K := Lib.hid fun W (hb : Below w.heap.size w W) (hL : Left W (w.heap.size + 1) (2000 : Nat)) => nodesMay_all (ok := fun b => b < w.heap.size) (g := w.heap.size + 1) (fun b hb => by omega) r.size r (Nat.le_refl _) 2000 v W (Nat.le_refl _) hL (h'.below hb); obtain ⟨x0, x1, x2, x3, x4, bl, n', cp, rfl⟩ := cells_re h; clear h h'; have hm : mayR r = mayN r 2000 := rfl; rw [hm]; generalize mayN r 2000 = q at *; go_enter Tryz.func39, Tryz.ntmps39; go_wp2_with fail; refine (K.out _ (((Below.refl _ w).alloc (Nat.le_refl _) _).alloc (by simp) _) (blk_at _ _ (by simp))).mono ?_; rintro e w1 ⟨rfl, -, hb⟩; have hbw : Below w.heap.size w w1 := (((Below.refl _ w).alloc (Nat.le_refl _) _).alloc (by simp) _).trans ((hb.mono (by simp; omega)).below (by omega)); clear hb; go_wp2; go_ret; exact ⟨rfl, hbw⟩
def idxInv2 (l : List Rx) (w : World) (y : Value) (wr : World) : Prop := ∃ i : Nat, i ≤ l.length ∧ y = .int .i64 i ∧ (l.take i).all mayR = true ∧ Below w.heap.size w wr
def IdxPost2 (q : Bool) (w : World) (e : Ending) (w' : World) : Prop := ∃ x : Int, decide (0 ≤ x) = !q ∧ e = .returned (.int .i64 x) ∧ Below w.heap.size w w'
set_option maxHeartbeats 4000000 in
theorem index_any {ok : Nat → Prop} (l : List Rx) (al : Option Addr) (cap : Nat) (w : World) (hl : l.length < 2199023255552) (hR : RowAt ok w al l) :
    Calls Tryz.prog 54 #[.slice al l.length cap, .func (.func 39) #[] #[]] w (IdxPost2 (l.all mayR) w) := by
  have HR := Lib.hid hR; clear hR; go_enter Tryz.func54, Tryz.ntmps54; go_wp2
  go_loopw [8] (fun y wr => idxInv2 l w y wr) (fun y _ => l.length - (intOf y).toNat)
  case atStart => exact ⟨0, Nat.zero_le _, rfl, by simp, Below.refl _ _⟩
  case round =>
    obtain ⟨i, hi, rfl, hmay, hb⟩ := hrel; have HY := Lib.hid hmay; clear hmay
    by_cases hlt : i < l.length
    · obtain ⟨b, off, hab, hblt, hnode⟩ := HR.out.kid hlt; subst hab; have hkid := NodeAt.below hb _ hblt hnode
      have htk : (l.take (i + 1)).all mayR = ((l.take i).all mayR && mayR l[i]) := by
        rw [List.take_succ_eq_append_getElem hlt, List.all_append]; simp
      have hno : mayR l[i] = false → l.all mayR = false := fun h => by
        rw [List.all_eq_false]; exact ⟨l[i], List.getElem_mem hlt, by rw [h]; simp⟩
      clear hnode; generalize l[i] = kid at *; obtain ⟨k', ⟨ta, tb, tc, td⟩, ks'⟩ := kid; obtain ⟨al', cap', ⟨c0, c1, c2, c3, c4, c5⟩, hre⟩ := hkid.read; simp only at c0 c1 c2 c3 c4 c5; have K := Lib.hid (mayClosure_any _ _ wr hre); generalize mayR (Rx.node k' ⟨ta, tb, tc, td⟩ ks') = q at *; have T1 := Lib.hid htk; have T2 := Lib.hid hno; clear hkid hre htk hno; (have q1 : (i : Int) < (l.length : Int) := by omega); go_wp2_with fail; refine K.out.mono ?_; rintro e w1 ⟨rfl, hb1⟩; replace hb := hb.trans (hb1.mono hb.size); clear hb1 c0 c1 c2 c3 c4 c5
      cases q with
      | true =>
        go_wp2; exact ⟨⟨i + 1, by omega, by go_num, by rw [T1.out, HY.out]; rfl, hb⟩, by simp [intOf]; omega⟩
      | false =>
        go_wp2; go_ret; exact ⟨i, by rw [T2.out trivial]; simp, rfl, hb⟩
    · have he : l.take i = l := List.take_of_length_le (by omega); rw [he] at HY; go_wp2; go_ret; exact ⟨-1, by rw [HY.out]; rfl, rfl, hb⟩
theorem contains_any {ok : Nat → Prop} (l : List Rx) (al : Option Addr) (cap : Nat) (w : World) (hl : l.length < 2199023255552) (hR : RowAt ok w al l) :
    Calls Tryz.prog 38 #[.slice al l.length cap, .func (.func 39) #[] #[]] w fun e w' => e = .returned (.bool (!l.all mayR)) ∧ Below w.heap.size w w' := by
  have K := Lib.hid (index_any l al cap w hl hR); clear hR; generalize l.all mayR = q at *; go_enter Tryz.func38, Tryz.ntmps38; go_wp2_with fail; refine K.out.mono ?_; rintro e w1 ⟨x, hx, rfl, hb⟩; have HX := Lib.hid hx; clear hx; go_wp2; go_ret; exact ⟨by rw [← HX.out]; rfl, hb⟩
theorem mayX {ok : Nat → Prop} (l : List Rx) (al : Option Addr) (cap : Nat) (w : World) (hl : l.length < 2199023255552) (hR : RowAt ok w al l) :
    Calls Tryz.prog 25 #[.slice al l.length cap] w fun e w' => e = .returned (.bool (l.all mayR)) ∧ Below w.heap.size w w' := by
  have K := Lib.hid (contains_any l al cap w hl hR); clear hR; generalize l.all mayR = q at *; go_enter Tryz.func25, Tryz.ntmps25; go_wp2_with fail; refine K.out.mono ?_; rintro e w1 ⟨rfl, hb⟩; go_wp2; go_ret; exact ⟨by simp, hb⟩
theorem row_new {w : World} {ok : Nat → Prop} {x0 x1 x2 x3 x4 x5 : Value} {r : Rx} (h : ReAt ok w (.agg #[x0, x1, x2, x3, x4, x5]) r) : RowAt (fun _ => True) (w.alloc (.cells #[x0, x1, x2, x3, x4, x5] 39)) (some ⟨w.heap.size, 0, none⟩) [r] :=
  row_one (blk_new w _) trivial ((h.below ((Below.refl _ w).alloc (Nat.le_refl _) _)).imp fun _ _ _ => trivial)
open Go.RowKit
theorem nodes_tail {ok : Nat → Prop} {w : World} {b off : Nat} {r : Rx} {rs : List Rx} (h : NodesAt ok w b off (r :: rs)) : NodesAt ok w b (off + 6) rs := by
  unfold NodesAt at h; exact h.2
theorem fold_kept {w W w' : World} {ok : Nat → Prop} (hbW : Below w.heap.size w W) (hsW : W.heap.size = w.heap.size + 1) (hb2 : Below W.drew.heap.size W.drew w') : Kept ok (fun b => (ok b ∧ b < w.heap.size) ∨ W.drew.heap.size ≤ b) w w' := by
  have hb : Below w.heap.size w w' := hbW.drew.trans (hb2.mono (by show w.heap.size ≤ W.heap.size; omega)); exact ⟨hb.size, fun b h1 h2 => ⟨.inl ⟨h2, h1⟩, hb.block b h1⟩⟩
theorem fold_le {w W : World} (hsW : W.heap.size = w.heap.size + 1) : w.heap.size ≤ W.drew.heap.size := by show w.heap.size ≤ W.heap.size; omega
theorem fold_nil {w W w' w'' : World} (hsW : W.heap.size = w.heap.size + 1) (hn : W.heap[w.heap.size]? = some nilBlk) (hb2 : Below W.drew.heap.size W.drew w') (hb3 : Below w'.heap.size w' w'') : w''.heap[w.heap.size]? = some nilBlk := by
  have h1 : w'.heap[w.heap.size]? = some nilBlk := (hb2.block _ (by show w.heap.size < W.heap.size; omega)).trans hn; exact (hb3.block _ (Array.getElem?_eq_some_iff.1 h1).1).trans h1
abbrev FoldC (x : World) (b off : Nat) (x0 x1 x2 x3 x4 x5 : Value) : Prop := x.cell? ⟨b, off, none⟩ = some x0 ∧ x.cell? ⟨b, off + 1, none⟩ = some x1 ∧ x.cell? ⟨b, off + 2, none⟩ = some x2 ∧ x.cell? ⟨b, off + 3, none⟩ = some x3 ∧ x.cell? ⟨b, off + 4, none⟩ = some x4 ∧ x.cell? ⟨b, off + 5, none⟩ = some x5
theorem foldC_go {W x : World} {b off B : Nat} {x0 x1 x2 x3 x4 x5 : Value} (h : FoldC W b off x0 x1 x2 x3 x4 x5) (hb : b < B) (hx : Below B W x) : FoldC x b off x0 x1 x2 x3 x4 x5 := by
  obtain ⟨d0, d1, d2, d3, d4, d5⟩ := h; have e := fun o => hx.cell (p := ⟨b, o, none⟩) hb; exact ⟨by rw [e]; exact d0, by rw [e]; exact d1, by rw [e]; exact d2, by rw [e]; exact d3, by rw [e]; exact d4, by rw [e]; exact d5⟩
theorem fold_end {w W w' w'' : World} {ok : Nat → Prop} {r : Rx} {y0 y1 y2 y3 y4 y5 : Value} (hbW : Below w.heap.size w W) (hsW : W.heap.size = w.heap.size + 1) (hn : W.heap[w.heap.size]? = some nilBlk) (hb2 : Below W.drew.heap.size W.drew w') (hb3 : Below w'.heap.size w' w'')
    (hu : ReAt (fun b => ((ok b ∧ b < w.heap.size) ∨ W.drew.heap.size ≤ b) ∨ w'.heap.size ≤ b) w'' (.agg #[y0, y1, y2, y3, y4, y5]) r) :
    (putW w'' w.heap.size y0 y1 y2 y3 y4 y5).heap[w.heap.size]? = some (.cells #[y0, y1, y2, y3, y4, y5] 39) ∧
    ReAt (fun b => ok b ∨ w.heap.size ≤ b) (putW w'' w.heap.size y0 y1 y2 y3 y4 y5) (.agg #[y0, y1, y2, y3, y4, y5]) r ∧ Below w.heap.size w (putW w'' w.heap.size y0 y1 y2 y3 y4 y5) := by
  have h1 : W.heap.size ≤ w'.heap.size := hb2.size; have h2 := hb3.size; have hd : W.drew.heap.size = W.heap.size := rfl; refine ⟨putR (fold_nil hsW hn hb2 hb3) _ _ _ _ _ _, hu.go ⟨by rw [putW_size]; exact Nat.le_refl _, fun b _ h => ?_⟩, putB (hbW.drew.trans ((hb2.mono (fold_le hsW)).trans (hb3.mono (by omega)))) (Nat.le_refl _) _ _ _ _ _ _⟩; rw [hd] at h
  rcases h with (⟨h, hl⟩ | h) | h
  · exact ⟨.inl h, putW_other _ _ _ _ _ _ _ _ (by omega)⟩
  · exact ⟨.inr (by omega), putW_other _ _ _ _ _ _ _ _ (by omega)⟩
  · exact ⟨.inr (by omega), putW_other _ _ _ _ _ _ _ _ (by omega)⟩
set_option maxHeartbeats 4000000 in
theorem refFold_any (k o : Nat) (hko : (k = 4 ∧ o = 2) ∨ (k = 5 ∧ o = 1)) : ∀ (l : List Rx) (ok : Nat → Prop) (al : Option Addr) (cap : Nat) (w : World), l.length < 2199023255552 → l.length ≤ cap → RowAt ok w al l →
    Calls Tryz.prog 68 #[.int .u8 k, .slice al l.length cap] w (RePost ok (foldR k o l) w) := by
  intro l
  induction l with
  | nil =>
    intro ok al cap w _ _ _; have KB := Lib.hid fun W => bare_any o W (by omega); have h1 : foldR k o [] = .node o Ws.nil [] := rfl; rw [h1]
    rcases hko with ⟨rfl, rfl⟩ | ⟨rfl, rfl⟩
    all_goals
      go_enter Tryz.func68, Tryz.ntmps68; go_wp2_with fail; refine (KB.out _).mono ?_; rintro e w1 ⟨v, rfl, hv, hb1⟩; obtain ⟨x0, x1, x2, x3, x4, bl, n', cp, rfl⟩ := cells_re hv; obtain ⟨hn, h1, h2, h3⟩ := pass_re hv hb1; obtain ⟨g0, g1, g2, g3, g4, g5, p0, p1, p2, p3, p4, p5⟩ := cellsR hn; unfold putW at h1 h2 h3; have H1 := Lib.hid h1; have H2 := Lib.hid h2; have H3 := Lib.hid h3; clear hv hb1 hn h1 h2 h3; go_wp2; exact ret_re H1.out Tryz.results68 rfl rfl ⟨_, rfl, leaf_any _ H2.out, H3.out⟩
  | cons r rs ih =>
    intro ok al cap w hlen hcap hR
    obtain ⟨b, off, hab, hblt, hbok, hnode⟩ : ∃ b off, al = some ⟨b, off, none⟩ ∧ b < w.heap.size ∧ ok b ∧ NodesAt ok w b off (r :: rs) := by
      rcases hR with h | h
      · cases h
      · exact h
    subst hab; (have hk256 : k < 256 := by omega); (have hk0 : NodeAt ok w b off r := by unfold NodesAt at hnode; exact hnode.1); have hrs0 := nodes_tail hnode; obtain ⟨k', ⟨ta, tb, tc, td⟩, ks'⟩ := r; obtain ⟨al', cap', ⟨c0, c1, c2, c3, c4, c5⟩, hre⟩ := hk0.read; simp only at c0 c1 c2 c3 c4 c5; have HRE := Lib.hid hre; clear hre hk0 hnode hR
    by_cases hrs : rs = []
    · subst hrs; rw [show foldR k o [Rx.node k' ⟨ta, tb, tc, td⟩ ks'] = Rx.node k' ⟨ta, tb, tc, td⟩ ks' from rfl, show [Rx.node k' ⟨ta, tb, tc, td⟩ ks'].length = 1 from rfl]; clear hrs0 ih; go_enter Tryz.func68, Tryz.ntmps68; go_wp2; refine ret_re (blk_new w _) Tryz.results68 rfl rfl ⟨_, rfl, ?_, (Below.refl _ w).alloc (Nat.le_refl _) _⟩; exact (HRE.out.below ((Below.refl _ w).alloc (Nat.le_refl _) _)).imp fun _ _ h => .inl h
    · have hpos : 0 < rs.length := List.length_pos_iff.2 hrs; rw [foldR_cons k o _ hrs]; have hrow : RowAt ok w (some ⟨b, off + 6, none⟩) rs := .inr ⟨b, off + 6, rfl, hblt, hbok, hrs0⟩; obtain ⟨n, hn⟩ : ∃ n, n = (Rx.node k' ⟨ta, tb, tc, td⟩ ks' :: rs).length := ⟨_, rfl⟩; rw [← hn] at hlen hcap ⊢; simp at hn; (have hrl : rs.length = n - 1 := by omega); (have hc1 : rs.length ≤ cap - 1 := by omega); have KF := Lib.hid fun W (h : Below w.heap.size w W) => ih (fun b => ok b ∧ b < w.heap.size) (some ⟨b, off + 6, none⟩) (cap - 1) W (by omega) hc1 ((hrow.imp fun b hb h => ⟨h, hb⟩ : RowAt (fun b => ok b ∧ b < w.heap.size) w _ rs).below h); have KT := Lib.hid fun (W : World) (ok' : Nat → Prop) (u : Value) (h : ReAt ok' W _ (Rx.node k' ⟨ta, tb, tc, td⟩ ks')) (h' : ReAt ok' W u (foldR k o rs)) => two_any k _ _ (.agg #[.int .u8 k', .int .u64 ta, .int .u64 tb, .int .u64 tc, .int .u64 td, .slice al' ks'.length cap']) u W hk256 h h'; rw [hrl] at KF; (have q0 : ((n : Int) == 0) = false := by simp; omega); (have q1 : ((n : Int) == 1) = false := by simp; omega); (have q2 : (0 : Int) < (n : Int) := by omega); (have q3 : (1 : Int) ≤ (n : Int) := by omega); (have q4 : 1 ≤ n := by omega); (have q5 : 0 < n := by omega); (have q7 : ¬ cap = 1 := by omega); generalize foldR k o rs = F at *; clear ih hrow hrs0 hn hrl hc1 hrs hko; have hnb := blk_new w nilBlk; have hbW := (Below.refl _ w).alloc (Nat.le_refl _) nilBlk; (have hsW : (w.alloc nilBlk).heap.size = w.heap.size + 1 := by simp); go_enter Tryz.func68, Tryz.ntmps68; go_wp2_with fail
      change Code.wp _ _ _ _ (w.alloc nilBlk)
      generalize w.alloc nilBlk = W at *; have c0' := hbW.cell (p := ⟨b, off, none⟩) hblt; have c1' := hbW.cell (p := ⟨b, off + 1, none⟩) hblt; have c2' := hbW.cell (p := ⟨b, off + 2, none⟩) hblt; have c3' := hbW.cell (p := ⟨b, off + 3, none⟩) hblt; have c4' := hbW.cell (p := ⟨b, off + 4, none⟩) hblt; have c5' := hbW.cell (p := ⟨b, off + 5, none⟩) hblt; rw [c0] at c0'; rw [c1] at c1'; rw [c2] at c2'; rw [c3] at c3'; rw [c4] at c4'; rw [c5] at c5'; clear c0 c1 c2 c3 c4 c5; have HNB := Lib.hid hnb; clear hnb; have HC := Lib.hid (⟨c0', c1', c2', c3', c4', c5'⟩ : FoldC W b off (.int .u8 k') (.int .u64 ta) (.int .u64 tb) (.int .u64 tc) (.int .u64 td) (.slice al' ks'.length cap'))
      go_region_with (first
        | (go_at_call 68; (with_reducible refine (KF.out _ hbW.drew).mono ?_); (rintro e w' ⟨u, rfl, hu, hb2⟩); (obtain ⟨z0, z1, z2, z3, z4, zl, zn, zc, rfl⟩ := cells_re hu); (obtain ⟨d0, d1, d2, d3, d4, d5⟩ := foldC_go HC.out hblt ((Below.refl _ _).drew.trans (hb2.mono (fold_le hsW)))))
        | (go_at_call 64; (with_reducible refine (KT.out _ (fun b => (ok b ∧ b < w.heap.size) ∨ W.drew.heap.size ≤ b) _ ?_ ?_).mono ?_); (exact HRE.out.go (fold_kept hbW hsW hb2)); (exact hu); (rintro e w'' ⟨u, rfl, hu2, hb3⟩); (obtain ⟨y0, y1, y2, y3, y4, yl, yn, yc, rfl⟩ := cells_re hu2); (obtain ⟨g0, g1, g2, g3, g4, g5, p0, p1, p2, p3, p4, p5⟩ := cellsR (fold_nil hsW HNB.out hb2 hb3))))
      all_goals
        obtain ⟨s1, s2, s3⟩ := fold_end hbW hsW HNB.out hb2 hb3 hu2; unfold putW at s1 s2 s3; have S1 := Lib.hid s1; have S2 := Lib.hid s2; have S3 := Lib.hid s3; clear s1 s2 s3 hu hu2 hb2 hb3 d0 d1 d2 d3 d4 d5 g0 g1 g2 g3 g4 g5 p0 p1 p2 p3 p4 p5 c0' c1' c2' c3' c4' c5'; go_wp2; exact ret_re S1.out Tryz.results68 rfl rfl ⟨_, rfl, S2.out, S3.out⟩
open Go.RowKit
mutual
def allR : Rx → List Rx
  | .node k s ks => .node k s ks :: allRs ks
def allRs : List Rx → List Rx
  | [] => []
  | r :: rs => allR r ++ allRs rs
end
theorem allRs_append (a b : List Rx) : allRs (a ++ b) = allRs a ++ allRs b := by
  induction a with
  | nil => simp [allRs]
  | cons x t ih => simp [allRs, ih, List.append_assoc]
mutual
theorem allR_length : ∀ (r : Rx), (allR r).length = r.size
  | .node k s ks => by
    have := allRs_length ks; simp [allR, Rx.size, this]; omega
theorem allRs_length : ∀ (l : List Rx), (allRs l).length = Rx.sizes l
  | [] => by simp [allRs, Rx.sizes]
  | r :: rs => by
    have h1 := allR_length r; have h2 := allRs_length rs; simp [allRs, Rx.sizes, h1, h2]
end
mutual
theorem allR_good : ∀ (r : Rx), (allR r).all goodN = goodR r
  | .node k s ks => by
    have := allRs_good ks; simp [allR, goodR, goodN, this]
theorem allRs_good : ∀ (l : List Rx), (allRs l).all goodN = goodRs l
  | [] => by simp [allRs, goodRs]
  | r :: rs => by
    have h1 := allR_good r; have h2 := allRs_good rs; simp [allRs, goodRs, List.all_append, h1, h2]
end
def AllPost (B : Nat) (l : List Rx) (w : World) (e : Ending) (w' : World) : Prop := ∃ g off cap, e = .returned (.slice (some ⟨g, off, none⟩) l.length cap) ∧ w.heap.size ≤ g ∧ g < w'.heap.size ∧ l.length ≤ cap ∧ NodesAt (Lo B) w' g off l ∧ Below w.heap.size w w'
def allInv (B : Nat) (r : Rx) (ks : List Rx) (sl : Value) (w : World) (v y : Value) (wr : World) : Prop := ∃ (i m : Nat) (xs : List Value), i ≤ ks.length ∧ y = .int .i64 i ∧ m = 1 + Rx.sizes (ks.take i) ∧ wr.cell? ⟨w.heap.size, 5, none⟩ = some sl ∧ Below w.heap.size w wr ∧ w.heap.size + 1 < wr.heap.size ∧ wr.ownsRow (w.heap.size + 1) 39 6 v m xs ∧ RowVals (Lo B) wr xs (r :: allRs (ks.take i))
set_option maxHeartbeats 4000000 in
theorem all_any (B : Nat) (N : Nat) : ∀ (r : Rx), r.size ≤ N → ∀ (v : Value) (w : World), r.size ≤ 8000000 → B ≤ w.heap.size → ReAt (Lo B) w v r →
    Calls Tryz.prog 35 #[v] w (AllPost B (allR r) w) := by
  obtain ⟨i0, hi, hz0, hz1, hz2⟩ := info_parts infoR; have hz2' := Lib.hid hz2; clear hz2
  induction N with
  | zero => intro r h; have := r.size_pos; omega
  | succ N ih =>
    rintro ⟨k, s, ks⟩ hN v w hbig hB hR; have HRE := Lib.hid hR; obtain ⟨hk, hs, al, cap, rfl, hcap, hmax, hrow⟩ := hR; (have hN' : Rx.sizes ks ≤ N := by simp [Rx.size] at hN; omega); (have hbig' : 1 + Rx.sizes ks ≤ 8000000 := by simp [Rx.size] at hbig; omega); have IH := Lib.hid ih; have HR := Lib.hid hrow; have HALL := Lib.hid (show allR (.node k s ks) = .node k s ks :: allRs ks from by simp [allR]); obtain ⟨sa, sb, sc, sd⟩ := s; clear ih hrow hN hbig; go_enter Tryz.func35, Tryz.ntmps35; go_wp2
    go_loopw [3, 10] (fun v y wr => allInv B (.node k ⟨sa, sb, sc, sd⟩ ks) ks (.slice al ks.length cap) w v y wr) (fun _ y _ => ks.length - (intOf y).toNat)
    case atStart =>
      have hbw : Below w.heap.size w ((w.alloc (.cells #[.int .u8 k, .int .u64 sa, .int .u64 sb, .int .u64 sc, .int .u64 sd, .slice al ks.length cap] 39)).alloc (.cells #[.int .u8 k, .int .u64 sa, .int .u64 sb, .int .u64 sc, .int .u64 sd, .slice al ks.length cap] 39)) := ((Below.refl _ w).alloc (Nat.le_refl _) _).alloc (by simp) _; refine ⟨0, 1, [.int .u8 k, .int .u64 sa, .int .u64 sb, .int .u64 sc, .int .u64 sd, .slice al ks.length cap], Nat.zero_le _, rfl, by simp [Rx.sizes], ?_, hbw, by simp, ⟨rfl, .inr ⟨w.heap.size + 1, 1, #[.int .u8 k, .int .u64 sa, .int .u64 sb, .int .u64 sc, .int .u64 sd, .slice al ks.length cap], rfl, Nat.le_refl _, blk_at _ _ (by simp), Nat.le_refl _, by simp [maxLen], rfl, rfl⟩⟩, ?_⟩
      · rw [Lib.cell_of_heap ((Below.heap_alloc _ _ _ (by simp)).trans (blk_new w _))]; rfl
      · simp only [List.take_zero, allRs]; exact RowVals.one (HRE.out.go (kept_lo hB (hbw.mono hB)))
    case round =>
      obtain ⟨i, m, xs, hii, rfl, hm, hc5, hb, hgs, hown, hvals⟩ := hrel; have HO := Lib.hid hown; have HV := Lib.hid hvals; have HM := Lib.hid hm; have hsz := hb.size; clear hown hvals hm
      by_cases hlt : i < ks.length
      · obtain ⟨b, off, hab, hblt, hnode⟩ := HR.out.kid hlt; subst hab; have hkid := NodeAt.below hb _ hblt hnode; have hkz := size_kid hlt; have hst := sizes_take ks i hlt; have hle := sizes_take_le ks (i + 1)
        have htk : allRs (ks.take (i + 1)) = allRs (ks.take i) ++ allR ks[i] := by
          rw [List.take_succ_eq_append_getElem hlt, allRs_append]; simp [allRs]
        have hal := allR_length ks[i]; clear hnode; generalize ks[i] = kid at *; obtain ⟨k', ⟨ta, tb, tc, td⟩, ks'⟩ := kid; obtain ⟨al', cap', ⟨c0, c1, c2, c3, c4, c5⟩, hre⟩ := hkid.read; simp only at c0 c1 c2 c3 c4 c5; have KC := Lib.hid (IH.out _ (Nat.le_trans hkz hN') _ wr (by omega) (Nat.le_trans hB hsz) hre); have HTK := Lib.hid htk; have HAL := Lib.hid hal; have HST := Lib.hid hst; have HLE := Lib.hid hle; clear hkid hre htk hal hst hle hkz; generalize allR (Rx.node k' ⟨ta, tb, tc, td⟩ ks') = L at *; generalize (Rx.node k' ⟨ta, tb, tc, td⟩ ks').size = z at *; go_wp2_with fail; refine KC.out.mono ?_; rintro e w1 ⟨g, off1, cap1, rfl, hg1, hg2, hcap1, hn1, hb1⟩; obtain ⟨ys, hys, hyc, hyo⟩ := nodes_vals _ _ hn1; have hbw : Below w.heap.size w w1 := hb.trans (hb1.mono hsz); have HO1 := Lib.hid (ownR_below HO.out hb1); have HV1 := Lib.hid (HV.out.go (kept_lo (Nat.le_trans hB hsz) (hb1.mono (Nat.le_trans hB hsz)))); have HYS := Lib.hid hys; have HYC := Lib.hid hyc; have HYO := Lib.hid hyo
        have hc51 : w1.cell? ⟨w.heap.size, 5, none⟩ = some (.slice (some ⟨b, off, none⟩) ks.length cap) := by
          rw [hb1.cell (p := ⟨w.heap.size, 5, none⟩) (show w.heap.size < wr.heap.size from by omega)]; exact hc5
        have hsz1 : w.heap.size + 1 < w1.heap.size := Nat.lt_of_lt_of_le hgs hb1.size
        have hnum : m + L.length ≤ 8000000 := by
          have := HM.out; have := HAL.out; have := HST.out; have := HLE.out; omega
        clear c0 c1 c2 c3 c4 c5 hn1 hys hyc hyo hb1 hc5; go_wp2_with (at_builtin; refine wpList_append_own _ rfl _ _ 27 rfl (w.heap.size + 1) 39 i0 _ 6 64 Tryz.underlying27 hi hz0 hz1 hz2'.out rfl (by decide) _ _ _ rfl HO1.out ⟨g, off1, none⟩ L.length cap1 ys rfl HYS.out.1 ?c1 HYO.out ?c3 ?c4 ?c5 ?_)
        case c1 => intro j u hj; rw [Go.WideShapes.add_plain]; exact HYC.out j u hj
        case c3 => unfold maxLen; omega
        case c4 => omega
        case c5 => omega
        intro v' w2 hown' hgrow _; have hge := ownR_ge HO1.out; have hb2 : Below w.heap.size w w2 := hbw.grown hgrow (by omega) (fun g hg => by have := hge g hg; omega); have hb2' : Below B w1 w2 := (Below.refl B w1).grown hgrow (by omega) (fun g hg => by have := hge g hg; omega)
        have hc52 : w2.cell? ⟨w.heap.size, 5, none⟩ = some (.slice (some ⟨b, off, none⟩) ks.length cap) := by
          rw [World.cell?_of_block (w := w1) (a := ⟨w.heap.size, 5, none⟩) (hgrow.block _ (by show w.heap.size < _; omega) (fun e => by have := hge _ e.symm; simp at this; omega))]; exact hc51
        have hsz2 : w.heap.size + 1 < w2.heap.size := Nat.lt_of_lt_of_le hsz1 hgrow.size
        have hvals : RowVals (Lo B) w2 (xs ++ ys) ((.node k ⟨sa, sb, sc, sd⟩ ks :: allRs (ks.take i)) ++ L) :=
          (HV1.out.go (kept_lo (by omega) hb2')).append (HYS.out.go (kept_lo (by omega) hb2'))
        have hm2 : m + L.length = 1 + Rx.sizes (ks.take (i + 1)) := by
          have := HM.out; have := HAL.out; have := HST.out; omega
        have HOW := Lib.hid hown'; have HVL := Lib.hid hvals; have HM2 := Lib.hid hm2; clear hgrow hown' hvals hm2 hc51 hge hb2'; go_wp2; exact ⟨⟨i + 1, m + L.length, xs ++ ys, by omega, by go_num, HM2.out, hc52, hb2, hsz2, HOW.out, by rw [HTK.out]; exact HVL.out⟩, by simp [intOf]; omega⟩
      · have he : ks.take i = ks := List.take_of_length_le (by omega); rw [he] at HV HM; rw [← HALL.out] at HV; (have hlen : m = (allR (.node k ⟨sa, sb, sc, sd⟩ ks)).length := by rw [HALL.out, List.length_cons, allRs_length, HM.out]; omega); obtain ⟨g, cap2, hv, g1, g2, g3, g4⟩ := own_nodes (by rw [← hlen]; exact HO.out) HV.out (by rw [HALL.out]; simp); have G4 := Lib.hid g4; subst hv; generalize allR (.node k ⟨sa, sb, sc, sd⟩ ks) = L at *; clear g4 he hlen; go_wp2; go_ret; exact ⟨g, 0, cap2, rfl, by omega, g2, g3, G4.out, hb⟩
theorem allXb (B : Nat) (r : Rx) (v : Value) (w : World) (hbig : r.size ≤ 8000000) (hB : B ≤ w.heap.size) (h : ReAt (Lo B) w v r) :
    Calls Tryz.prog 35 #[v] w (AllPost B (allR r) w) := all_any B r.size r (Nat.le_refl _) v w hbig hB h
open Go.RowKit
def rmInv (L : List Rx) (w1 : World) (y : Value) (wr : World) : Prop := ∃ i : Nat, i ≤ L.length ∧ y = .int .i64 i ∧ (L.take i).all goodN = true ∧ Below w1.heap.size w1 wr
theorem all_no {L : List Rx} {i : Nat} (h : i < L.length) (hg : goodN L[i] = false) : L.all goodN = false := by
  rw [List.all_eq_false]; exact ⟨L[i], List.getElem_mem h, by rw [hg]; simp⟩
set_option maxHeartbeats 40000000 in
theorem refMay_big {ok : Nat → Prop} (r : Rx) (v : Value) (w : World) (hbig : r.size ≤ 8000000) (h : ReAt ok w v r) :
    Calls Tryz.prog 22 #[v] w fun e w' => e = .returned (.bool (mayR r)) ∧ Below w.heap.size w w' := by
  have h' : ReAt (Lo w.heap.size) w v r := h.imp fun b hb _ => hb; have KA := Lib.hid fun W (hb : Below w.heap.size w W) => allXb w.heap.size r v W hbig hb.size (h'.go (kept_lo (Nat.le_refl _) hb))
  have hmay : mayR r = ((allR r).all goodN && decide ((allR r).length ≤ 2000)) := by
    rw [allR_good, allR_length]; rfl
  have HMAY := Lib.hid hmay; (have hlen : (allR r).length ≤ 8000000 := by rw [allR_length]; exact hbig); obtain ⟨x0, x1, x2, x3, x4, bl, n', cp, rfl⟩ := cells_re h; clear h h' hmay; generalize mayR r = ans at *; generalize allR r = L at *; go_enter Tryz.func22, Tryz.ntmps22; go_wp2_with fail; refine (KA.out _ ((Below.refl _ w).alloc (Nat.le_refl _) _)).mono ?_; rintro e w1 ⟨g, off, cap, rfl, hg1, hg2, hcap, hn, hb1⟩; have hbw : Below w.heap.size w w1 := ((Below.refl _ w).alloc (Nat.le_refl _) _).trans (hb1.mono (by simp)); have HN := Lib.hid hn; have HBW := Lib.hid hbw; clear hn hb1 hbw hg1; go_wp2
  go_loopw [10] (fun y wr => rmInv L w1 y wr) (fun y _ => L.length - (intOf y).toNat)
  case atStart => exact ⟨0, Nat.zero_le _, rfl, by simp, Below.refl _ _⟩
  case round =>
    obtain ⟨i, hii, rfl, hall, hb⟩ := hrel; have HA := Lib.hid hall; have hfin := HBW.out.trans (hb.mono HBW.out.size); have HFIN := Lib.hid hfin; clear hall hfin
    by_cases hlt : i < L.length
    · have hkid := NodeAt.below hb _ hg2 (nodesAt_get HN.out i hlt)
      have htk : (L.take (i + 1)).all goodN = ((L.take i).all goodN && goodN L[i]) := by
        rw [List.take_succ_eq_append_getElem hlt, List.all_append]; simp
      have hno := fun h => all_no hlt h; generalize L[i] = kid at *; obtain ⟨k, s, ks⟩ := kid; obtain ⟨al', cap', ⟨c0, c1, c2, c3, c4, c5⟩, hre⟩ := hkid.read; obtain ⟨hk, hs, -, -, -, -, hlk, -⟩ := hre; have hgn : goodN (.node k s ks) = nodeGood k ks.length (bareB s) := rfl; rw [hgn] at htk hno; have T1 := Lib.hid htk; have T2 := Lib.hid hno
      have hq : ∀ W : World, (Op.equalIn 10000 37 s.v (.agg #[.int .u64 0, .int .u64 0, .int .u64 0, .int .u64 0])).run Tryz.prog W = .ok (bareB s) W := fun W => by
        rw [← nil_v]
        by_cases hb : s = Ws.nil
        · subst hb; rw [eqW_yes, show bareB Ws.nil = true from sameW_iff.2 rfl]
        · rw [eqW_no hb]; congr 1; have : ¬ sameW s Ws.nil = true := fun e => hb (sameW_iff.1 e)
          symm; simpa [bareB] using this
      generalize bareB s = q at *; obtain ⟨sa, sb, sc, sd⟩ := s; unfold Ws.v at hq; simp only at c0 c1 c2 c3 c4 c5 hq; clear hkid htk hno hgn; (have q1 : (i : Int) < (L.length : Int) := by omega)
      by_cases k0 : k = 0
      · subst k0; go_wp2; go_ret; exact ⟨by rw [HMAY.out, T2.out (by simp [nodeGood])]; simp, HFIN.out⟩
      by_cases k7 : 6 < k
      · (have d1 : decide ((k : Int) < (1 : Int)) = false := by simp; omega); (have d2 : decide ((6 : Int) < (k : Int)) = true := by simp; omega)
        have hng : nodeGood k ks.length q = false := by
          (have n1 : ¬ k = 1 := by omega); (have n2 : ¬ k = 2 := by omega); (have n3 : ¬ k = 3 := by omega); (have n4 : ¬ k = 4 := by omega); (have n5 : ¬ k = 5 := by omega); (have n6 : ¬ k = 6 := by omega); simp [nodeGood, n1, n2, n3, n4, n5, n6]
        have HNG := Lib.hid hng; clear hng; go_wp2; go_ret; exact ⟨by rw [HMAY.out, T2.out HNG.out]; simp, HFIN.out⟩
      (have hk6 : k = 1 ∨ k = 2 ∨ k = 3 ∨ k = 4 ∨ k = 5 ∨ k = 6 := by omega); clear k0 k7 hk; have hgw : g < wr.heap.size := Nat.lt_of_lt_of_le hg2 hb.size
      rcases hk6 with rfl | rfl | rfl | rfl | rfl | rfl
      · rw [show ((1 : Nat) : Int) = 1 from rfl] at c0
        cases q
        · go_wp2; go_ret; exact ⟨by rw [HMAY.out, T2.out (by simp [nodeGood])]; simp, HFIN.out⟩
        · go_wp2
          go_region
          all_goals
            by_cases hm : ks.length = 0
            · (have d1 : ((ks.length : Int) != 0) = false := by simp only [bne_eq_false_iff_eq]; omega); have T3 := Lib.hid (show nodeGood 1 ks.length true = true from by simp [nodeGood, hm]); clear hm; go_wp2; exact ⟨⟨i + 1, by omega, by go_num, by rw [T1.out, HA.out, T3.out]; rfl, hb.drew.alloc hb.size _⟩, by simp [intOf]; omega⟩
            · (have d1 : ((ks.length : Int) != 0) = true := by simp only [bne_iff_ne, ne_eq]; omega); have T3 := Lib.hid (show nodeGood 1 ks.length true = false from by simp [nodeGood, hm]); clear hm; go_wp2; go_ret; exact ⟨by rw [HMAY.out, T2.out T3.out]; simp, HFIN.out.drew.alloc HFIN.out.size _⟩
      · rw [show ((2 : Nat) : Int) = 2 from rfl] at c0
        cases q
        · go_wp2; go_ret; exact ⟨by rw [HMAY.out, T2.out (by simp [nodeGood])]; simp, HFIN.out⟩
        · go_wp2
          go_region
          all_goals
            by_cases hm : ks.length = 0
            · (have d1 : ((ks.length : Int) != 0) = false := by simp only [bne_eq_false_iff_eq]; omega); have T3 := Lib.hid (show nodeGood 2 ks.length true = true from by simp [nodeGood, hm]); clear hm; go_wp2; exact ⟨⟨i + 1, by omega, by go_num, by rw [T1.out, HA.out, T3.out]; rfl, hb.drew.alloc hb.size _⟩, by simp [intOf]; omega⟩
            · (have d1 : ((ks.length : Int) != 0) = true := by simp only [bne_iff_ne, ne_eq]; omega); have T3 := Lib.hid (show nodeGood 2 ks.length true = false from by simp [nodeGood, hm]); clear hm; go_wp2; go_ret; exact ⟨by rw [HMAY.out, T2.out T3.out]; simp, HFIN.out.drew.alloc HFIN.out.size _⟩
      · rw [show ((3 : Nat) : Int) = 3 from rfl] at c0
        cases q
        · go_wp2
          go_region
          all_goals
            by_cases hm : ks.length = 0
            · (have d1 : ((ks.length : Int) != 0) = false := by simp only [bne_eq_false_iff_eq]; omega); have T3 := Lib.hid (show nodeGood 3 ks.length false = true from by simp [nodeGood, hm]); clear hm; go_wp2; exact ⟨⟨i + 1, by omega, by go_num, by rw [T1.out, HA.out, T3.out]; rfl, hb.drew.alloc hb.size _⟩, by simp [intOf]; omega⟩
            · (have d1 : ((ks.length : Int) != 0) = true := by simp only [bne_iff_ne, ne_eq]; omega); have T3 := Lib.hid (show nodeGood 3 ks.length false = false from by simp [nodeGood, hm]); clear hm; go_wp2; go_ret; exact ⟨by rw [HMAY.out, T2.out T3.out]; simp, HFIN.out.drew.alloc HFIN.out.size _⟩
        · go_wp2; go_ret; exact ⟨by rw [HMAY.out, T2.out (by simp [nodeGood])]; simp, HFIN.out⟩
      · rw [show ((4 : Nat) : Int) = 4 from rfl] at c0
        cases q
        · go_wp2; go_ret; exact ⟨by rw [HMAY.out, T2.out (by simp [nodeGood])]; simp, HFIN.out⟩
        · go_wp2
          go_region
          all_goals
            by_cases hm : ks.length = 2
            · (have d1 : ((ks.length : Int) != 2) = false := by simp only [bne_eq_false_iff_eq]; omega); have T3 := Lib.hid (show nodeGood 4 ks.length true = true from by simp [nodeGood, hm]); clear hm; go_wp2; exact ⟨⟨i + 1, by omega, by go_num, by rw [T1.out, HA.out, T3.out]; rfl, hb.drew.alloc hb.size _⟩, by simp [intOf]; omega⟩
            · (have d1 : ((ks.length : Int) != 2) = true := by simp only [bne_iff_ne, ne_eq]; omega); have T3 := Lib.hid (show nodeGood 4 ks.length true = false from by simp [nodeGood, hm]); clear hm; go_wp2; go_ret; exact ⟨by rw [HMAY.out, T2.out T3.out]; simp, HFIN.out.drew.alloc HFIN.out.size _⟩
      · rw [show ((5 : Nat) : Int) = 5 from rfl] at c0
        cases q
        · go_wp2; go_ret; exact ⟨by rw [HMAY.out, T2.out (by simp [nodeGood])]; simp, HFIN.out⟩
        · go_wp2
          go_region
          all_goals
            by_cases hm : ks.length = 2
            · (have d1 : ((ks.length : Int) != 2) = false := by simp only [bne_eq_false_iff_eq]; omega); have T3 := Lib.hid (show nodeGood 5 ks.length true = true from by simp [nodeGood, hm]); clear hm; go_wp2; exact ⟨⟨i + 1, by omega, by go_num, by rw [T1.out, HA.out, T3.out]; rfl, hb.drew.alloc hb.size _⟩, by simp [intOf]; omega⟩
            · (have d1 : ((ks.length : Int) != 2) = true := by simp only [bne_iff_ne, ne_eq]; omega); have T3 := Lib.hid (show nodeGood 5 ks.length true = false from by simp [nodeGood, hm]); clear hm; go_wp2; go_ret; exact ⟨by rw [HMAY.out, T2.out T3.out]; simp, HFIN.out.drew.alloc HFIN.out.size _⟩
      · rw [show ((6 : Nat) : Int) = 6 from rfl] at c0
        cases q
        · go_wp2; go_ret; exact ⟨by rw [HMAY.out, T2.out (by simp [nodeGood])]; simp, HFIN.out⟩
        · go_wp2
          go_region
          all_goals
            by_cases hm : ks.length = 1
            · (have d1 : ((ks.length : Int) != 1) = false := by simp only [bne_eq_false_iff_eq]; omega); have T3 := Lib.hid (show nodeGood 6 ks.length true = true from by simp [nodeGood, hm]); clear hm; go_wp2; exact ⟨⟨i + 1, by omega, by go_num, by rw [T1.out, HA.out, T3.out]; rfl, hb.drew.alloc hb.size _⟩, by simp [intOf]; omega⟩
            · (have d1 : ((ks.length : Int) != 1) = true := by simp only [bne_iff_ne, ne_eq]; omega); have T3 := Lib.hid (show nodeGood 6 ks.length true = false from by simp [nodeGood, hm]); clear hm; go_wp2; go_ret; exact ⟨by rw [HMAY.out, T2.out T3.out]; simp, HFIN.out.drew.alloc HFIN.out.size _⟩
    · have he : L.take i = L := List.take_of_length_le (by omega); rw [he] at HA; (have hd : decide ((L.length : Int) ≤ (2000 : Int)) = decide (L.length ≤ 2000) := by rw [decide_eq_decide]; omega); have HD := Lib.hid hd; clear hd he; go_wp2; go_ret; exact ⟨by rw [HMAY.out, HA.out, ← HD.out]; rfl, HFIN.out⟩
theorem refMay_any {ok : Nat → Prop} (r : Rx) (v : Value) (w : World) (hbig : r.size ≤ 1000000) (h : ReAt ok w v r) :
    Calls Tryz.prog 22 #[v] w fun e w' => e = .returned (.bool (mayR r)) ∧ Below w.heap.size w w' := refMay_big r v w (Nat.le_trans hbig (by decide)) h
open Go.RowKit
noncomputable def exX (r : Rx) : Option Ex := by
  classical
  exact if h : ∃ e : Ex, e.rx = r ∧ e.Wf ∧ e.size ≤ 2000 then some (Classical.choose h) else none
theorem exX_of {e : Ex} (we : e.Wf) (hs : e.size ≤ 2000) : exX e.rx = some e := by
  classical
  have h : ∃ f : Ex, f.rx = e.rx ∧ f.Wf ∧ f.size ≤ 2000 := ⟨e, rfl, we, hs⟩; unfold exX; rw [dif_pos h]; exact congrArg some (Ex.rx_inj _ _ (Classical.choose_spec h).1)
theorem exX_no {r : Rx} (h : mayR r = false) : exX r = none := by
  classical
  unfold exX; rw [dif_neg]; rintro ⟨e, rfl, we, hs⟩; (have : mayR e.rx = true := by simp [mayR, mayN, good_ex e we, Ex.size_rx, hs]); rw [this] at h
  cases h
end Go.Proofs.YthgghaaddankoaaGreatDoor
/- Lemmas of mine. -/
namespace Go.Proofs.YthgghaaddankoaaGreatDoor
noncomputable def normX (r : Rx) : Rx := ((exX r).map fun e => (nfE e).rx).getD (.node 0 Ws.nil [])
open Go.RowKit
structure MM where
  most : Nat
  l : List Rx
  all : Nat
  met : Nat
def MM.new (room : Int) : MM := ⟨min room.toNat 10000, [], 0, 0⟩
def hitB (l : List Rx) (x : Rx) (j : Nat) : Bool := match l[j]? with
  | some y => sameR y x
  | none => false
def placeI (l : List Rx) (x : Rx) : Int := fstI (hitB l x) l.length
noncomputable def MM.find (m : MM) (r : Rx) : MM × Int × Bool :=
  if mayR r = true then (if 0 ≤ placeI m.l (normX r) then (⟨m.most, m.l, m.all + 1, m.met + 1⟩, placeI m.l (normX r), true) else (⟨m.most, m.l, m.all + 1, m.met⟩, 0, false)) else (m, 0, false)
noncomputable def MM.put (m : MM) (r : Rx) : MM × Int × Bool :=
  if mayR r = true then (if 0 ≤ placeI m.l (normX r) then (⟨m.most, m.l, m.all + 1, m.met + 1⟩, placeI m.l (normX r), true)
    else if m.most ≤ m.l.length then (⟨m.most, m.l, m.all + 1, m.met⟩, 0, false) else (⟨m.most, m.l ++ [normX r], m.all + 1, m.met⟩, (m.l.length : Int), true)) else (m, 0, false)
noncomputable def MM.puts (m : MM) (l : List Rx) : MM × Int × Bool := l.foldl (fun s r => s.1.put r) (m, 0, false)
noncomputable def MM.finds (m : MM) (l : List Rx) : MM := l.foldl (fun s r => (s.find r).1) m
noncomputable def MM.act (m : MM) (a : Bool × List Rx) : MM := if a.1 = true then m.finds a.2 else (m.puts a.2).1
noncomputable def MM.acts (m : MM) (l : List (Bool × List Rx)) : MM := l.foldl MM.act m
def MM.at (m : MM) (i : Int) : Rx × Bool := if 0 ≤ i ∧ i < (m.l.length : Int) then ((m.l[i.toNat]?).getD (.node 0 Ws.nil []), true) else (.node 0 Ws.nil [], false)
theorem placeI_lo (l : List Rx) (x : Rx) : -1 ≤ placeI l x := fstI_lo _ _
theorem placeI_hit {l : List Rx} {x : Rx} {i : Nat} (hi : i < l.length) (h0 : ∀ j, j < i → hitB l x j = false) (h1 : hitB l x i = true) : placeI l x = (i : Int) := fstI_hit hi h0 h1
theorem placeI_none {l : List Rx} {x : Rx} (h0 : ∀ j, j < l.length → hitB l x j = false) : placeI l x = -1 := fstI_none h0
theorem hitB_iff {l : List Rx} {x : Rx} {j : Nat} : hitB l x j = true ↔ l[j]? = some x := by
  unfold hitB
  cases h : l[j]? with
  | none => simp
  | some y => simp [sameR_iff]
theorem placeI_cases (l : List Rx) (x : Rx) : (∃ i : Nat, placeI l x = (i : Int) ∧ i < l.length ∧ l[i]? = some x ∧ ∀ j, j < i → l[j]? ≠ some x) ∨ (placeI l x = -1 ∧ x ∉ l) := by
  unfold placeI fstI
  cases h : (List.range l.length).find? (hitB l x) with
  | some i =>
    rw [List.find?_range_eq_some] at h; obtain ⟨h1, h2, h3⟩ := h; refine .inl ⟨i, rfl, by simpa using h2, hitB_iff.1 (by simpa using h1), fun j hj e => ?_⟩; have := h3 j hj; rw [hitB_iff.2 e] at this
    cases this
  | none =>
    rw [List.find?_eq_none] at h; refine .inr ⟨rfl, fun hx => ?_⟩; obtain ⟨j, hj, e⟩ := List.getElem_of_mem hx; exact h j (List.mem_range.2 hj) (hitB_iff.2 (by rw [List.getElem?_eq_getElem hj, e]))
theorem placeI_of {l : List Rx} {x : Rx} {i : Nat} (h1 : l[i]? = some x) (h0 : ∀ j, j < i → l[j]? ≠ some x) : placeI l x = (i : Int) := by
  refine placeI_hit (List.getElem?_eq_some_iff.1 h1).1 (fun j hj => ?_) (hitB_iff.2 h1)
  cases hh : hitB l x j with
  | false => rfl
  | true => exact absurd (hitB_iff.1 hh) (h0 j hj)
theorem placeI_not {l : List Rx} {x : Rx} (h : x ∉ l) : placeI l x = -1 := by
  rcases placeI_cases l x with ⟨i, _, h1, h2, _⟩ | ⟨h1, _⟩
  · exact absurd (List.mem_of_getElem? h2) h
  · exact h1
structure MM.Ok (m : MM) (n : Nat) : Prop where
  most : m.most ≤ 10000
  len : m.l.length ≤ m.most
  all : m.all ≤ n
  met : m.met ≤ m.all
  form : ∀ x ∈ m.l, ∃ r, mayR r = true ∧ normX r = x
  nodup : m.l.Nodup
theorem MM.new_ok (room : Int) : (MM.new room).Ok 0 := ⟨Nat.min_le_right _ _, Nat.zero_le _, Nat.le_refl _, Nat.le_refl _, fun x h => absurd h (by simp [MM.new]), List.nodup_nil⟩
theorem MM.Ok.mono {m : MM} {n k : Nat} (h : m.Ok n) (hk : n ≤ k) : m.Ok k := ⟨h.most, h.len, Nat.le_trans h.all hk, h.met, h.form, h.nodup⟩
theorem MM.Ok.find {m : MM} {n : Nat} (h : m.Ok n) (r : Rx) : (m.find r).1.Ok (n + 1) := by
  have h1 := h.all; have h2 := h.met; unfold MM.find
  split
  · split
    · exact ⟨h.most, h.len, Nat.succ_le_succ h1, Nat.succ_le_succ h2, h.form, h.nodup⟩
    · exact ⟨h.most, h.len, Nat.succ_le_succ h1, Nat.le_succ_of_le h2, h.form, h.nodup⟩
  · exact h.mono (Nat.le_succ _)
theorem MM.Ok.put {m : MM} {n : Nat} (h : m.Ok n) (r : Rx) : (m.put r).1.Ok (n + 1) := by
  have h1 := h.all; have h2 := h.met; unfold MM.put
  split
  · rename_i hm
    split
    · exact ⟨h.most, h.len, Nat.succ_le_succ h1, Nat.succ_le_succ h2, h.form, h.nodup⟩
    · rename_i hp
      split
      · exact ⟨h.most, h.len, Nat.succ_le_succ h1, Nat.le_succ_of_le h2, h.form, h.nodup⟩
      · rename_i hl
        have hn : normX r ∉ m.l := by
          rcases placeI_cases m.l (normX r) with ⟨i, e, _⟩ | ⟨_, h⟩
          · rw [e] at hp; omega
          · exact h
        refine ⟨h.most, ?_, Nat.succ_le_succ h1, Nat.le_succ_of_le h2, ?_, ?_⟩
        · simp; omega
        · intro x hx
          rcases List.mem_append.1 hx with hx | hx
          · exact h.form x hx
          · simp at hx; exact ⟨r, hm, hx.symm⟩
        · rw [List.nodup_append]; refine ⟨h.nodup, by simp, ?_⟩; intro a ha b hb e; simp at hb; subst hb; subst e; exact hn ha
  · exact h.mono (Nat.le_succ _)
theorem list_snoc {α : Type} {p : List α → Prop} (h0 : p []) (h1 : ∀ l r, p l → p (l ++ [r])) (l : List α) : p l := by
  rw [← List.reverse_reverse l]
  induction l.reverse with
  | nil => exact h0
  | cons a t ih => rw [List.reverse_cons]; exact h1 _ _ ih
theorem MM.puts_snoc (m : MM) (l : List Rx) (r : Rx) : m.puts (l ++ [r]) = (m.puts l).1.put r := by simp [MM.puts, List.foldl_append]
theorem MM.finds_snoc (m : MM) (l : List Rx) (r : Rx) : m.finds (l ++ [r]) = ((m.finds l).find r).1 := by simp [MM.finds, List.foldl_append]
theorem MM.acts_snoc (m : MM) (l : List (Bool × List Rx)) (a : Bool × List Rx) : m.acts (l ++ [a]) = (m.acts l).act a := by simp [MM.acts, List.foldl_append]
theorem MM.Ok.puts {m : MM} {n : Nat} (h : m.Ok n) : ∀ l : List Rx, (m.puts l).1.Ok (n + l.length) := by
  intro l
  induction l using list_snoc with
  | h0 => exact h
  | h1 l r ih =>
    rw [MM.puts_snoc, List.length_append]; exact ih.put r
theorem MM.Ok.finds {m : MM} {n : Nat} (h : m.Ok n) : ∀ l : List Rx, (m.finds l).Ok (n + l.length) := by
  intro l
  induction l using list_snoc with
  | h0 => exact h
  | h1 l r ih =>
    rw [MM.finds_snoc, List.length_append]; exact ih.find r
theorem MM.Ok.act {m : MM} {n : Nat} (h : m.Ok n) (a : Bool × List Rx) : (m.act a).Ok (n + a.2.length) := by
  unfold MM.act
  split
  · exact h.finds _
  · exact h.puts _
theorem MM.find_l (m : MM) (r : Rx) : (m.find r).1.l = m.l ∧ (m.find r).1.most = m.most := by
  unfold MM.find
  split
  · split <;> exact ⟨rfl, rfl⟩
  · exact ⟨rfl, rfl⟩
theorem MM.at_none (m : MM) {i : Int} (h : ¬ (0 ≤ i ∧ i < (m.l.length : Int))) : m.at i = (.node 0 Ws.nil [], false) := by unfold MM.at; rw [if_neg h]
theorem MM.at_some (m : MM) {i : Int} (h : 0 ≤ i ∧ i < (m.l.length : Int)) : ∃ x, m.l[i.toNat]? = some x ∧ m.at i = (x, true) := by
  unfold MM.at; rw [if_pos h]; (have hl : i.toNat < m.l.length := by omega); exact ⟨m.l[i.toNat], List.getElem?_eq_getElem hl, by rw [List.getElem?_eq_getElem hl]; rfl⟩
open Go.RowKit
def RdB (w : World) (D : Nat) (s : ByteArray) (k : Nat) (vl : Value) : Prop := w.heap[D]? = some (.cells #[.string s, .int .i64 k, vl] 111 (0, 0))
theorem RdB.lt {w : World} {D : Nat} {s : ByteArray} {k : Nat} {vl : Value} (h : RdB w D s k vl) : D < w.heap.size := (Array.getElem?_eq_some_iff.1 h).1
theorem RdB.cells {w : World} {D : Nat} {s : ByteArray} {k : Nat} {vl : Value} (h : RdB w D s k vl) : w.cell? ⟨D, 0, none⟩ = some (.string s) ∧ w.cell? ⟨D, 1, none⟩ = some (.int .i64 k) ∧ w.cell? ⟨D, 2, none⟩ = some vl := by
  unfold RdB at h
  refine ⟨?_, ?_, ?_⟩ <;> (rw [Lib.cell_of_heap h]; rfl)
theorem RdB.frozen {w : World} {D : Nat} {s : ByteArray} {k : Nat} {vl : Value} (h : RdB w D s k vl) : w.frozen? ⟨D, 0, none⟩ = false ∧ w.frozen? ⟨D, 1, none⟩ = false ∧ w.frozen? ⟨D, 2, none⟩ = false :=
  ⟨Lib.frozen_of_heap h 0, Lib.frozen_of_heap h 1, Lib.frozen_of_heap h 2⟩
theorem RdB.of {w w' : World} {D : Nat} {s : ByteArray} {k : Nat} {vl : Value} (h : RdB w D s k vl) (e : w'.heap[D]? = w.heap[D]?) : RdB w' D s k vl := e.trans h
theorem RdB.below {w w' : World} {D : Nat} {s : ByteArray} {k : Nat} {vl : Value} (h : RdB w D s k vl) (hb : Below w.heap.size w w') : RdB w' D s k vl := h.of (hb.block D h.lt)
theorem RdB.go {w : World} {D : Nat} {s : ByteArray} {k : Nat} {vl : Value} (h : RdB w D s k vl) (j : Nat) : RdB (w.setCell ⟨D, 1, none⟩ (.int .i64 (j : Int))) D s j vl := by
  unfold RdB at h ⊢; simp [World.setCell, Array.getElem?_modify, h]
theorem RdB.lay {w : World} {D : Nat} {s : ByteArray} {k : Nat} {vl : Value} (h : RdB w D s k vl) (u : Value) : RdB (w.setCell ⟨D, 2, none⟩ u) D s k u := by
  unfold RdB at h ⊢; simp [World.setCell, Array.getElem?_modify, h]
def thr (k : Nat) : Ending := .panicked [{ v := .iface 86 (.int .i64 k), recovered := false }]
theorem must_yes (p : Value) (w : World) : Calls Tryz.prog 52 #[p, .bool true] w fun e w' => e = .returned (.tuple #[]) ∧ w' = w := by
  go_enter Tryz.func52, Tryz.ntmps52; go_wp2; go_end0; exact ⟨rfl, rfl⟩
theorem must_no {w : World} {D : Nat} {s : ByteArray} {k : Nat} {vl : Value} (h : RdB w D s k vl) : Calls Tryz.prog 52 #[.pointer (some ⟨D, 0, none⟩), .bool false] w fun e w' => e = thr k ∧ w' = w := by
  obtain ⟨c0, c1, c2⟩ := h.cells; go_enter Tryz.func52, Tryz.ntmps52; go_wp2; exact ⟨rfl, rfl, rfl⟩
def frS (l : List UInt8) : ByteArray := ⟨(l.take 1).toArray⟩
theorem frS_ext (s : ByteArray) (k j : Nat) (hj : j = k + 1 ∨ (j = k ∧ s.size ≤ k)) : s.extract k j = frS (tl s k) := by
  apply ByteArray.ext
  unfold frS tl; rw [ByteArray.data_extract]
  apply Array.ext'
  rw [Array.toList_extract, List.extract_eq_take_drop]
  rcases hj with rfl | ⟨rfl, h⟩
  · simp
  · rw [List.drop_eq_nil_of_le (by simpa using h)]; simp
set_option maxHeartbeats 1000000 in
theorem front_any {w : World} {D : Nat} {s : ByteArray} {k : Nat} {vl : Value} (h : RdB w D s k vl) (hs : s.size ≤ 1000000000) (hk : k ≤ s.size) : Calls Tryz.prog 75 #[.pointer (some ⟨D, 0, none⟩)] w fun e w' => e = .returned (.string (frS (tl s k))) ∧ Below w.heap.size w w' := by
  obtain ⟨c0, c1, c2⟩ := h.cells; (have wk : IntKind.i64.wrap ((k : Int) + 1) = (k : Int) + 1 := by rw [IntKind.wrap_i64]; omega); clear h
  by_cases hlt : k < s.size
  · (have q1 : (k : Int) + 1 ≤ (s.size : Int) := by omega); (have q2 : ((k : Int) + 1).toNat = k + 1 := by omega); (have hm : min ((k : Int) + 1) (s.size : Int) = (k : Int) + 1 := by omega); go_enter Tryz.func75, Tryz.ntmps75; go_wp2
    go_quiet (fail)
    go_wp2; go_ret; exact ⟨by rw [frS_ext s k (k + 1) (.inl rfl)]; rfl, below_drewN (Below.refl _ _) _⟩
  · (have hke : k = s.size := by omega); subst hke; (have hm : min ((s.size : Int) + 1) (s.size : Int) = (s.size : Int) := by omega); go_enter Tryz.func75, Tryz.ntmps75; go_wp2
    go_quiet (fail)
    go_wp2; go_ret; exact ⟨by rw [tl_nil s _ (Nat.le_refl _)]; rfl, below_drewN (Below.refl _ _) _⟩
set_option maxHeartbeats 1000000 in
theorem top_any {w : World} {D : Nat} {s : ByteArray} {k g n cap : Nat} (h : RdB w D s k (.slice (some ⟨g, 0, none⟩) (n + 1) cap)) (hn : n < 1000000000) : Calls Tryz.prog 86 #[.pointer (some ⟨D, 0, none⟩)] w fun e w' => e = .returned (.pointer (some ⟨g, n * 2, none⟩)) ∧ Below w.heap.size w w' := by
  obtain ⟨c0, c1, c2⟩ := h.cells; (have q1 : ((n + 1 : Nat) : Int) - 1 = (n : Int) := by omega); (have wk : IntKind.i64.wrap (n : Int) = (n : Int) := by rw [IntKind.wrap_i64]; omega); clear h; go_enter Tryz.func86, Tryz.ntmps86; go_wp2
  go_quiet (fail)
  go_wp2; go_ret; exact ⟨rfl, below_drewN (Below.refl _ _) _⟩
open Go.RowKit
def insAt (r : Rx) (O M : List Rx) (k : Nat) (dn : Bool) : Prop := insR r O = M ++ (if dn = true then O.drop k else insR r (O.drop k)) ∧ M.length = k + (if dn = true then 1 else 0)
theorem insAt_start (r : Rx) (O : List Rx) : insAt r O [] 0 false := ⟨by simp, rfl⟩
theorem insAt_done {r : Rx} {O M : List Rx} {k : Nat} (h : insAt r O M k true) (hk : k < O.length) : insAt r O (M ++ [O[k]]) (k + 1) true := by
  obtain ⟨h1, h2⟩ := h; refine ⟨?_, by simp at h2 ⊢; omega⟩; rw [h1]; simp only [if_true]; rw [List.drop_eq_getElem_cons hk]; simp
theorem insAt_go {r : Rx} {O M : List Rx} {k : Nat} (h : insAt r O M k false) (hk : k < O.length) (hc : ¬ ordR r O[k] < 0) : insAt r O (M ++ [O[k]]) (k + 1) false := by
  obtain ⟨h1, h2⟩ := h; refine ⟨?_, by simp at h2 ⊢; omega⟩; rw [h1]; simp only [Bool.false_eq_true, if_false]; rw [List.drop_eq_getElem_cons hk]; simp [insR, hc]
theorem insAt_put {r : Rx} {O M : List Rx} {k : Nat} (h : insAt r O M k false) (hk : k < O.length) (hc : ordR r O[k] < 0) : insAt r O (M ++ [r] ++ [O[k]]) (k + 1) true := by
  obtain ⟨h1, h2⟩ := h; refine ⟨?_, by simp at h2 ⊢; omega⟩; rw [h1]; simp only [Bool.false_eq_true, if_false, if_true]; rw [List.drop_eq_getElem_cons hk]; simp [insR, hc]
theorem insAt_end {r : Rx} {O M : List Rx} {k : Nat} (h : insAt r O M k true) (hk : k = O.length) : insR r O = M := by
  obtain ⟨h1, _⟩ := h; rw [h1, hk]; simp
theorem insAt_last {r : Rx} {O M : List Rx} {k : Nat} (h : insAt r O M k false) (hk : k = O.length) : insR r O = M ++ [r] := by
  obtain ⟨h1, _⟩ := h; rw [h1, hk]; simp [insR]
theorem sort_take (l : List Rx) (i : Nat) (h : i < l.length) : sortR (l.take (i + 1)) = insR l[i] (sortR (l.take i)) := by
  rw [List.take_succ_eq_append_getElem h, sortR_snoc]
end Go.Proofs.YthgghaaddankoaaGreatDoor
/- Lemmas of mine. -/
namespace Go.Proofs.YthgghaaddankoaaGreatDoor.Kx
open Go.RowKit
def Lk (P : Nat → Prop) (B b : Nat) : Prop := P b ∧ b < B
theorem kept_lk {P : Nat → Prop} {B : Nat} {w w' : World} (_hB : B ≤ w.heap.size) (h : Below B w w') : Kept (Lk P B) (Lk P B) w w' := ⟨h.size, fun b _ h2 => ⟨h2, h.block b h2.2⟩⟩
variable {P : Nat → Prop}
def RowPost (P : Nat → Prop) (B : Nat) (l : List Rx) (w : World) (e : Ending) (w' : World) : Prop := ∃ al cap, e = .returned (.slice al l.length cap) ∧ l.length ≤ cap ∧ RowAt (fun b => Lk P B b ∨ w.heap.size ≤ b) w' al l ∧ Below w.heap.size w w'
def onceInv (P : Nat → Prop) (B : Nat) (l : List Rx) (w : World) (v y : Value) (wr : World) : Prop := ∃ (i n : Nat) (O : List Rx) (xs : List Value), i ≤ l.length ∧ y = .int .i64 i ∧ O = onceTake l i ∧ n = O.length ∧ Below w.heap.size w wr ∧ wr.ownsRow w.heap.size 39 6 v n xs ∧ RowVals (Lk P B) wr xs O
set_option maxHeartbeats 4000000 in
theorem refOnce_any (P : Nat → Prop) (B : Nat) (l : List Rx) (al : Option Addr) (cap : Nat) (w : World) (hl : l.length ≤ 1000000) (hB : B ≤ w.heap.size) (hR : RowAt (Lk P B) w al l) :
    Calls Tryz.prog 69 #[.slice al l.length cap] w (RowPost P B (onceR l) w) := by
  obtain ⟨i0, hi, hz0, hz1, hz2⟩ := info_parts infoR; have hz2' := Lib.hid hz2; have HR := Lib.hid hR; clear hz2 hR; go_enter Tryz.func69, Tryz.ntmps69; go_wp2
  go_loopw [3, 8] (fun v y wr => onceInv P B l w v y wr) (fun _ y _ => l.length - (intOf y).toNat)
  case atStart =>
    refine ⟨0, 0, [], [], Nat.zero_le _, rfl, by simp [onceTake, onceR, onceFrom], rfl, (Below.refl _ w).alloc (Nat.le_refl _) _, ⟨rfl, .inr ⟨w.heap.size, 0, #[], rfl, Nat.le_refl _, blk_new w _, Nat.le_refl _, Nat.zero_le _, rfl, rfl⟩⟩, RowVals.nil _ _⟩
  case round =>
    obtain ⟨i, n, O, xs, hii, rfl, hO, hn, hb, hown, hvals⟩ := hrel; (have hOl : n ≤ i := by rw [hn, hO]; exact onceTake_length l i); have HO := Lib.hid hown; have HV := Lib.hid hvals; have HEQ := Lib.hid hO; have HNE := Lib.hid hn; have hsz := hb.size; clear hown hvals hO
    by_cases hlt : i < l.length
    · obtain ⟨b, off, hab, hblt, hnode⟩ := HR.out.kid hlt; subst hab; have hst := onceTake_step l i hlt; rw [← HEQ.out] at hst; generalize l[i] = kid at *; obtain ⟨k', ⟨ta, tb, tc, td⟩, ks'⟩ := kid; obtain ⟨al', cap', ⟨c0w, c1w, c2w, c3w, c4w, c5w⟩, hre⟩ := hnode.read; simp only at c0w c1w c2w c3w c4w c5w
      have hcells : ∀ W, Below w.heap.size w W → (W.cell? ⟨b, off + i * 6, none⟩ = some (.int .u8 k') ∧ W.cell? ⟨b, off + i * 6 + 1, none⟩ = some (.int .u64 ta) ∧ W.cell? ⟨b, off + i * 6 + 2, none⟩ = some (.int .u64 tb) ∧ W.cell? ⟨b, off + i * 6 + 3, none⟩ = some (.int .u64 tc) ∧ W.cell? ⟨b, off + i * 6 + 4, none⟩ = some (.int .u64 td) ∧ W.cell? ⟨b, off + i * 6 + 5, none⟩ = some (.slice al' ks'.length cap')) := fun W hW => by
        have e := fun o => hW.cell (p := ⟨b, o, none⟩) hblt; exact ⟨by rw [e]; exact c0w, by rw [e]; exact c1w, by rw [e]; exact c2w, by rw [e]; exact c3w, by rw [e]; exact c4w, by rw [e]; exact c5w⟩
      have HCE := Lib.hid hcells; have HRE := Lib.hid hre; obtain ⟨alO, capO, hv, hcapO, hrowO⟩ := row_of_own (by rw [← hn]; exact HO.out) HV.out; subst hv; have K := Lib.hid (in_any O _ alO capO _ wr (by omega) hrowO (HRE.out.below hb)); have HST := Lib.hid hst; clear c0w c1w c2w c3w c4w c5w hcells hre hnode hst hrowO hcapO; generalize Rx.node k' ⟨ta, tb, tc, td⟩ ks' = r at *; generalize O.any (fun x => sameR x r) = q at *; rw [← hn] at K HO ⊢; clear hn; obtain ⟨c0, c1, c2, c3, c4, c5⟩ := HCE.out _ hb; (have q1 : (i : Int) < (l.length : Int) := by omega); go_wp2_with fail; refine K.out.mono ?_; rintro e w1 ⟨rfl, hb1⟩; have HO1 := Lib.hid (ownR_below HO.out hb1); have HV1 := Lib.hid (HV.out.go (kept_lk (Nat.le_trans hB hsz) (hb1.mono (Nat.le_trans hB hsz)))); replace hb := hb.trans (hb1.mono hsz); replace hsz := hb.size; clear hb1 c0 c1 c2 c3 c4 c5
      cases q with
      | true =>
        go_wp2; exact ⟨⟨i + 1, n, O, xs, by omega, by go_num, by rw [HST.out]; rfl, HNE.out, hb, HO1.out, HV1.out⟩, by simp [intOf]; omega⟩
      | false =>
        obtain ⟨c0, c1, c2, c3, c4, c5⟩ := HCE.out _ hb; have HRW := Lib.hid (HRE.out.below hb); go_wp2_with (at_builtin; refine wpList_append_own _ rfl _ _ 27 rfl w.heap.size 39 i0 _ 6 64 Tryz.underlying27 hi hz0 hz1 hz2'.out rfl (by decide) _ _ _ rfl (HO1.out.alloc _) ⟨w1.heap.size, 0, none⟩ 1 1 [.int .u8 k', .int .u64 ta, .int .u64 tb, .int .u64 tc, .int .u64 td, .slice al' ks'.length cap'] rfl rfl ?c1 ?c2 ?c3 ?c4 ?c5 ?_)
        case c1 => exact six_cells w1 _ _ _ _ _ _
        case c2 => intro u hu; simp at hu; rcases hu with rfl | rfl | rfl | rfl | rfl | rfl <;> rfl
        case c3 => unfold maxLen; omega
        case c4 => omega
        case c5 => simp; omega
        intro v' w2 hown' hgrow _; have hge := ownR_ge HO1.out; have hb2 : Below w.heap.size w w2 := (hb.alloc hsz _).grown hgrow (by simp; omega) hge; have hb3 : Below B w1 w2 := ((Below.refl B w1).alloc (by omega) _).grown hgrow (by simp; omega) (fun g hg => by have := hge g hg; omega)
        have hvals : RowVals (Lk P B) w2 (xs ++ [.int .u8 k', .int .u64 ta, .int .u64 tb, .int .u64 tc, .int .u64 td, .slice al' ks'.length cap']) (O ++ [r]) :=
          (HV1.out.go (kept_lk (by omega) hb3)).append ((RowVals.one HRW.out).go (kept_lk (by omega) hb3))
        have HOW := Lib.hid hown'; have HVL := Lib.hid hvals; clear hgrow hown' hvals hge hb3 c0 c1 c2 c3 c4 c5; go_wp2; exact ⟨⟨i + 1, n + 1, O ++ [r], _, by omega, by go_num, by rw [HST.out]; rfl, by rw [List.length_append, ← HNE.out]; rfl, hb2, HOW.out, HVL.out⟩, by simp [intOf]; omega⟩
    · (have he : onceTake l i = onceR l := by unfold onceTake; rw [List.take_of_length_le (by omega)]); rw [HEQ.out, he] at HV HNE; obtain ⟨alO, capO, hv, hcapO, hrowO⟩ := row_of_own (by rw [← HNE.out]; exact HO.out) HV.out; subst hv; have HRO := Lib.hid hrowO; clear hrowO hn; go_wp2; go_ret; exact ⟨alO, capO, rfl, hcapO, HRO.out, hb⟩
def OutAt (P : Nat → Prop) (n B : Nat) (w : World) (al : Option Addr) (O : List Rx) : Prop := O = [] ∨ ∃ g off, al = some ⟨g, off, none⟩ ∧ n ≤ g ∧ g < w.heap.size ∧ NodesAt (Lk P B) w g off O
theorem OutAt.kid {n B : Nat} {w : World} {al : Option Addr} {O : List Rx} (h : OutAt P n B w al O) {k : Nat} (hk : k < O.length) : ∃ g off, al = some ⟨g, off, none⟩ ∧ g < w.heap.size ∧ NodeAt (Lk P B) w g (off + k * 6) O[k] := by
  rcases h with h | ⟨g, off, e, _, h2, h3⟩
  · subst h; simp at hk
  · exact ⟨g, off, e, h2, nodesAt_get h3 k hk⟩
theorem OutAt.row {n B : Nat} {w : World} {al : Option Addr} {O : List Rx} (h : OutAt P n B w al O) : RowAt (fun b => Lk P B b ∨ n ≤ b) w al O := by
  rcases h with h | ⟨g, off, e, h1, h2, h3⟩
  · exact .inl h
  · exact .inr ⟨g, off, e, h2, .inr h1, NodesAt.go (ok := Lk P B) ⟨Nat.le_refl _, fun b _ h => ⟨.inl h, rfl⟩⟩ O rfl h3⟩
theorem out_of_own {n B : Nat} {w : World} {v : Value} {xs : List Value} {O : List Rx} (h : w.ownsRow n 39 6 v O.length xs) (hv : RowVals (Lk P B) w xs O) : ∃ al cap, v = .slice al O.length cap ∧ O.length ≤ cap ∧ OutAt P n B w al O := by
  by_cases hO : O = []
  · obtain ⟨al, cap, e, h1, _⟩ := row_of_own h hv; exact ⟨al, cap, e, h1, .inl hO⟩
  · obtain ⟨g, cap, e, h1, h2, h3, h4⟩ := own_nodes h hv hO; exact ⟨_, cap, e, h3, .inr ⟨g, 0, rfl, h1, h2, h4⟩⟩
def sortInv (P : Nat → Prop) (B : Nat) (l : List Rx) (w : World) (v y : Value) (wr : World) : Prop := ∃ (i : Nat) (O : List Rx) (al : Option Addr) (cap : Nat), i ≤ l.length ∧ y = .int .i64 i ∧ O = sortR (l.take i) ∧ v = .slice al O.length cap ∧ O.length ≤ cap ∧ OutAt P w.heap.size B wr al O ∧ Below w.heap.size w wr
def putInv (P : Nat → Prop) (B : Nat) (r : Rx) (O : List Rx) (wr : World) (v d y : Value) (wi : World) : Prop := ∃ (k n : Nat) (dn : Bool) (M : List Rx) (xs : List Value), k ≤ O.length ∧ y = .int .i64 k ∧ d = .bool dn ∧ insAt r O M k dn ∧ n = M.length ∧ n ≤ k + 1 ∧ Below wr.heap.size wr wi ∧ wr.heap.size ≤ wi.heap.size ∧ wi.ownsRow wr.heap.size 39 6 v n xs ∧ RowVals (Lk P B) wi xs M
set_option maxHeartbeats 8000000 in
set_option maxRecDepth 100000 in
theorem refSort_any (P : Nat → Prop) (B : Nat) (l : List Rx) (al : Option Addr) (cap : Nat) (w : World) (hl : l.length ≤ 1000000) (hB : B ≤ w.heap.size) (hR : RowAt (Lk P B) w al l) :
    Calls Tryz.prog 70 #[.slice al l.length cap] w (RowPost P B (sortR l) w) := by
  obtain ⟨i0, hi, hz0, hz1, hz2⟩ := info_parts infoR; have hz2' := Lib.hid hz2; have HR := Lib.hid hR; clear hz2 hR; go_enter Tryz.func70, Tryz.ntmps70; go_wp2
  go_loopw [3, 11] (fun v y wr => sortInv P B l w v y wr) (fun _ y _ => l.length - (intOf y).toNat)
  case atStart => exact ⟨0, [], some ⟨w.heap.size, 0, none⟩, 0, Nat.zero_le _, rfl, by simp [sortR], rfl, Nat.le_refl _, .inl rfl, (Below.refl _ w).alloc (Nat.le_refl _) _⟩
  case round =>
    obtain ⟨i, O, alO, capO, hii, rfl, hO, rfl, hcapO, hout, hb⟩ := hrel; obtain ⟨wo, hwo⟩ : ∃ wo, wo = wr := ⟨_, rfl⟩; subst hwo; (have hOl : O.length = i := by rw [hO, sortR_length, List.length_take]; omega); have HEQ := Lib.hid hO; have HOUT := Lib.hid hout; have HOL := Lib.hid hOl; have hsz := hb.size; clear hO hout
    by_cases hlt : i < l.length
    · obtain ⟨b, off, hab, hblt, hnode⟩ := HR.out.kid hlt; subst hab; have hst := sort_take l i hlt; rw [← HEQ.out] at hst; have hkr := NodeAt.below hb _ hblt hnode; generalize l[i] = kid at *; obtain ⟨k', ⟨ta, tb, tc, td⟩, ks'⟩ := kid; obtain ⟨al', cap', ⟨c0r, c1r, c2r, c3r, c4r, c5r⟩, hre⟩ := hkr.read; simp only at c0r c1r c2r c3r c4r c5r; have hbr : b < wo.heap.size := Nat.lt_of_lt_of_le hblt hsz
      have hcr : ∀ W, Below wo.heap.size wo W → (W.cell? ⟨b, off + i * 6, none⟩ = some (.int .u8 k') ∧ W.cell? ⟨b, off + i * 6 + 1, none⟩ = some (.int .u64 ta) ∧ W.cell? ⟨b, off + i * 6 + 2, none⟩ = some (.int .u64 tb) ∧ W.cell? ⟨b, off + i * 6 + 3, none⟩ = some (.int .u64 tc) ∧ W.cell? ⟨b, off + i * 6 + 4, none⟩ = some (.int .u64 td) ∧ W.cell? ⟨b, off + i * 6 + 5, none⟩ = some (.slice al' ks'.length cap')) := fun W hW => by
        have e := fun o => hW.cell (p := ⟨b, o, none⟩) hbr; exact ⟨by rw [e]; exact c0r, by rw [e]; exact c1r, by rw [e]; exact c2r, by rw [e]; exact c3r, by rw [e]; exact c4r, by rw [e]; exact c5r⟩
      have HCR := Lib.hid hcr; have HRE := Lib.hid hre; have HST := Lib.hid hst; clear c0r c1r c2r c3r c4r c5r hcr hre hnode hkr hst; generalize Rx.node k' ⟨ta, tb, tc, td⟩ ks' = r at *; (have q1 : (i : Int) < (l.length : Int) := by omega); have hBr : B ≤ wo.heap.size := Nat.le_trans hB hsz; go_wp2
      go_loopw [5, 6, 17] (fun v d y wr => putInv P B r O wo v d y wr) (fun _ _ y _ => O.length - (intOf y).toNat)
      case atStart => exact ⟨0, 0, false, [], [], Nat.zero_le _, rfl, rfl, insAt_start r O, rfl, by omega, (Below.refl _ wo).alloc (Nat.le_refl _) _, by simp, ⟨rfl, .inr ⟨wo.heap.size, 0, #[], rfl, Nat.le_refl _, blk_new wo _, Nat.le_refl _, Nat.zero_le _, rfl, rfl⟩⟩, RowVals.nil _ _⟩
      case round =>
        obtain ⟨k, n, dn, M, xs, hk, rfl, rfl, hins, hn, hnk, hbi, hsi, hown, hvals⟩ := hrel; have HO := Lib.hid hown; have HV := Lib.hid hvals; have HI := Lib.hid hins; have HN := Lib.hid hn; clear hown hvals hins hn
        by_cases hkl : k < O.length
        · obtain ⟨g, off2, hag, hglt0, hno⟩ := HOUT.out.kid hkl; subst hag; have s1 := fun (h : insAt r O M k true) => insAt_done h hkl; have s2 := fun (h : insAt r O M k false) hc => insAt_go h hkl hc; have s3 := fun (h : insAt r O M k false) hc => insAt_put h hkl hc; generalize O[k] = o at *; obtain ⟨u0, ⟨u1, u2, u3, u4⟩, us⟩ := o; obtain ⟨ul, uc, ⟨f0, f1, f2, f3, f4, f5⟩, hro0⟩ := hno.read; simp only at f0 f1 f2 f3 f4 f5; have hglt : g < wr.heap.size := Nat.lt_of_lt_of_le hglt0 hsi
          have HCO := Lib.hid fun W (hW : Below wo.heap.size wo W) => show (W.cell? ⟨g, off2 + k * 6, none⟩ = some (.int .u8 u0) ∧ W.cell? ⟨g, off2 + k * 6 + 1, none⟩ = some (.int .u64 u1) ∧ W.cell? ⟨g, off2 + k * 6 + 2, none⟩ = some (.int .u64 u2) ∧ W.cell? ⟨g, off2 + k * 6 + 3, none⟩ = some (.int .u64 u3) ∧ W.cell? ⟨g, off2 + k * 6 + 4, none⟩ = some (.int .u64 u4) ∧ W.cell? ⟨g, off2 + k * 6 + 5, none⟩ = some (.slice ul us.length uc)) from by
            have e := fun o => hW.cell (p := ⟨g, o, none⟩) hglt0; exact ⟨by rw [e]; exact f0, by rw [e]; exact f1, by rw [e]; exact f2, by rw [e]; exact f3, by rw [e]; exact f4, by rw [e]; exact f5⟩
          have HR0 := Lib.hid hro0; have hro := hro0.below hbi; obtain ⟨e0, e1, e2, e3, e4, e5⟩ := HCO.out _ hbi; clear f0 f1 f2 f3 f4 f5 hro0; obtain ⟨c0, c1, c2, c3, c4, c5⟩ := HCR.out _ hbi
          have KEEP := Lib.hid fun x (hx : Below wr.heap.size wr x) => show ((x.cell? ⟨b, off + i * 6, none⟩ = some (.int .u8 k') ∧ x.cell? ⟨b, off + i * 6 + 1, none⟩ = some (.int .u64 ta) ∧ x.cell? ⟨b, off + i * 6 + 2, none⟩ = some (.int .u64 tb) ∧ x.cell? ⟨b, off + i * 6 + 3, none⟩ = some (.int .u64 tc) ∧ x.cell? ⟨b, off + i * 6 + 4, none⟩ = some (.int .u64 td) ∧ x.cell? ⟨b, off + i * 6 + 5, none⟩ = some (.slice al' ks'.length cap')) ∧ (x.cell? ⟨g, off2 + k * 6, none⟩ = some (.int .u8 u0) ∧ x.cell? ⟨g, off2 + k * 6 + 1, none⟩ = some (.int .u64 u1) ∧ x.cell? ⟨g, off2 + k * 6 + 2, none⟩ = some (.int .u64 u2) ∧ x.cell? ⟨g, off2 + k * 6 + 3, none⟩ = some (.int .u64 u3) ∧ x.cell? ⟨g, off2 + k * 6 + 4, none⟩ = some (.int .u64 u4) ∧ x.cell? ⟨g, off2 + k * 6 + 5, none⟩ = some (.slice ul us.length uc))) ∧ Below wr.heap.size wr x from by
            have ec := HCR.out x (hbi.trans (hx.mono hsi)); have eo := fun o => hx.cell (p := ⟨g, o, none⟩) hglt; exact ⟨⟨ec, by rw [eo]; exact e0, by rw [eo]; exact e1, by rw [eo]; exact e2, by rw [eo]; exact e3, by rw [eo]; exact e4, by rw [eo]; exact e5⟩, hx⟩
          have HRO := Lib.hid hro; have K2 := Lib.hid fun W (h : Below wr.heap.size wr W) => refTwoX r _ _ _ W ((HRE.out.below hbi).below h) (hro.below h); generalize Rx.node u0 ⟨u1, u2, u3, u4⟩ us = o at *; generalize ordR r o = q at *; have S1 := Lib.hid s1; have S2 := Lib.hid s2; have S3 := Lib.hid s3; (have q2 : (k : Int) < (O.length : Int) := by omega); clear s1 s2 s3 hno hro e0 e1 e2 e3 e4 e5 c0 c1 c2 c3 c4 c5
          cases dn with
          | true =>
            go_wp2_with fail
            go_quiet (fail)
            have hbx : Below wr.heap.size wr (wr.drewN nq) := below_drewN (Below.refl _ _) nq; generalize wr.drewN nq = x at hbx ⊢; obtain ⟨⟨⟨c0, c1, c2, c3, c4, c5⟩, ⟨e0, e1, e2, e3, e4, e5⟩⟩, -⟩ := KEEP.out _ hbx; have HO1 := Lib.hid (ownR_below HO.out hbx); have HV1 := Lib.hid (HV.out.go (kept_lk (by omega) (hbx.mono (by omega)))); have HRX := Lib.hid ((HRE.out.below hbi).below hbx); have HOX := Lib.hid (HRO.out.below hbx); have hgx : g < x.heap.size := Nat.lt_of_lt_of_le hglt hbx.size; replace hbi := hbi.trans (hbx.mono hsi); replace hsi := hbi.size; clear hbx; go_wp2_with (at_builtin; refine wpList_append_own _ rfl _ _ 27 rfl wo.heap.size 39 i0 _ 6 64 Tryz.underlying27 hi hz0 hz1 hz2'.out rfl (by decide) _ _ _ rfl (HO1.out.alloc _) ⟨x.heap.size, 0, none⟩ 1 1 [.int .u8 u0, .int .u64 u1, .int .u64 u2, .int .u64 u3, .int .u64 u4, .slice ul us.length uc] rfl rfl ?c1 ?c2 ?c3 ?c4 ?c5 ?_)
            case c1 => exact six_cells x _ _ _ _ _ _
            case c2 => intro u hu; simp at hu; rcases hu with rfl | rfl | rfl | rfl | rfl | rfl <;> rfl
            case c3 => unfold maxLen; omega
            case c4 => omega
            case c5 => simp; omega
            intro vy y hown' hgrow _; have hge := ownR_ge HO1.out; have hbn : Below wo.heap.size wo y := (hbi.alloc hbi.size _).grown hgrow (by simp; omega) hge; have hbl : Below B x y := ((Below.refl B x).alloc (by omega) _).grown hgrow (by simp; omega) (fun g hg => by have := hge g hg; omega); have hvals := (HV1.out.go (kept_lk (by omega) hbl)).append ((RowVals.one HOX.out).go (kept_lk (by omega) hbl)); have HOW := Lib.hid hown'; have HVL := Lib.hid hvals; replace hbi := hbn; replace hsi := hbi.size; clear hgrow hown' hvals hge hbl hbn; clear c0 c1 c2 c3 c4 c5 e0 e1 e2 e3 e4 e5; go_wp2; exact ⟨⟨k + 1, n + 1, true, _, _, by omega, by go_num, rfl, S1.out HI.out, by rw [List.length_append, ← HN.out]; rfl, by omega, hbi, hsi, HOW.out, HVL.out⟩, by simp [intOf]; omega⟩
          | false =>
            go_wp2_with fail
            go_region_held3 (fun x => ((x.cell? ⟨b, off + i * 6, none⟩ = some (.int .u8 k') ∧ x.cell? ⟨b, off + i * 6 + 1, none⟩ = some (.int .u64 ta) ∧ x.cell? ⟨b, off + i * 6 + 2, none⟩ = some (.int .u64 tb) ∧ x.cell? ⟨b, off + i * 6 + 3, none⟩ = some (.int .u64 tc) ∧ x.cell? ⟨b, off + i * 6 + 4, none⟩ = some (.int .u64 td) ∧ x.cell? ⟨b, off + i * 6 + 5, none⟩ = some (.slice al' ks'.length cap')) ∧ (x.cell? ⟨g, off2 + k * 6, none⟩ = some (.int .u8 u0) ∧ x.cell? ⟨g, off2 + k * 6 + 1, none⟩ = some (.int .u64 u1) ∧ x.cell? ⟨g, off2 + k * 6 + 2, none⟩ = some (.int .u64 u2) ∧ x.cell? ⟨g, off2 + k * 6 + 3, none⟩ = some (.int .u64 u3) ∧ x.cell? ⟨g, off2 + k * 6 + 4, none⟩ = some (.int .u64 u4) ∧ x.cell? ⟨g, off2 + k * 6 + 5, none⟩ = some (.slice ul us.length uc))) ∧ Below wr.heap.size wr x) (first | assumption | (with_reducible exact KEEP.out _ (Below.refl _ _).drew) | (with_reducible exact KEEP.out _ (by assumption)))
              (first | (go_at_call 104; (with_reducible refine (K2.out _ (And.right (by assumption))).mono ?_); (rintro e x ⟨rfl, hb1⟩); (have hbx : Below wr.heap.size wr x := (Below.refl _ wr).drew.trans hb1)))
            all_goals
              obtain ⟨⟨⟨c0, c1, c2, c3, c4, c5⟩, ⟨e0, e1, e2, e3, e4, e5⟩⟩, -⟩ := KEEP.out _ hbx; have HO1 := Lib.hid (ownR_below HO.out hbx); have HV1 := Lib.hid (HV.out.go (kept_lk (by omega) (hbx.mono (by omega)))); have HRX := Lib.hid ((HRE.out.below hbi).below hbx); have HOX := Lib.hid (HRO.out.below hbx); have hgx : g < x.heap.size := Nat.lt_of_lt_of_le hglt hbx.size; replace hbi := hbi.trans (hbx.mono hsi); replace hsi := hbi.size; clear hbx
              by_cases hq : q < 0
              · (have d9 : decide (q < 0) = true := by simpa using hq); rw [d9]; go_wp2_with (at_builtin; refine wpList_append_own _ rfl _ _ 27 rfl wo.heap.size 39 i0 _ 6 64 Tryz.underlying27 hi hz0 hz1 hz2'.out rfl (by decide) _ _ _ rfl (HO1.out.alloc _) ⟨x.heap.size, 0, none⟩ 1 1 [.int .u8 k', .int .u64 ta, .int .u64 tb, .int .u64 tc, .int .u64 td, .slice al' ks'.length cap'] rfl rfl ?c1 ?c2 ?c3 ?c4 ?c5 ?_)
                case c1 => exact six_cells x _ _ _ _ _ _
                case c2 => intro u hu; simp at hu; rcases hu with rfl | rfl | rfl | rfl | rfl | rfl <;> rfl
                case c3 => unfold maxLen; omega
                case c4 => omega
                case c5 => simp; omega
                intro vy y hown' hgrow _; have hge := ownR_ge HO1.out; have hbn : Below wo.heap.size wo y := (hbi.alloc hbi.size _).grown hgrow (by simp; omega) hge; have hbl : Below B x y := ((Below.refl B x).alloc (by omega) _).grown hgrow (by simp; omega) (fun g hg => by have := hge g hg; omega); have hvals := (HV1.out.go (kept_lk (by omega) hbl)).append ((RowVals.one HRX.out).go (kept_lk (by omega) hbl)); have HOW := Lib.hid hown'; have HVL := Lib.hid hvals; replace hbi := hbn; replace hsi := hbi.size; clear hgrow hown' hvals hge hbl hbn; clear c0 c1 c2 c3 c4 c5 e0 e1 e2 e3 e4 e5; obtain ⟨e0, e1, e2, e3, e4, e5⟩ := HCO.out _ hbi; have HOY := Lib.hid (HR0.out.below hbi); go_wp2_with (at_builtin; refine wpList_append_own _ rfl _ _ 27 rfl wo.heap.size 39 i0 _ 6 64 Tryz.underlying27 hi hz0 hz1 hz2'.out rfl (by decide) _ _ _ rfl (HOW.out.alloc _) ⟨y.heap.size, 0, none⟩ 1 1 [.int .u8 u0, .int .u64 u1, .int .u64 u2, .int .u64 u3, .int .u64 u4, .slice ul us.length uc] rfl rfl ?m1 ?m2 ?m3 ?m4 ?m5 ?_)
                case m1 => exact six_cells y _ _ _ _ _ _
                case m2 => intro u hu; simp at hu; rcases hu with rfl | rfl | rfl | rfl | rfl | rfl <;> rfl
                case m3 => unfold maxLen; omega
                case m4 => omega
                case m5 => simp; omega
                intro vz z hown' hgrow _; have hge := ownR_ge HOW.out; have hbn : Below wo.heap.size wo z := (hbi.alloc hbi.size _).grown hgrow (by simp; omega) hge; have hbl : Below B y z := ((Below.refl B y).alloc (by omega) _).grown hgrow (by simp; omega) (fun g hg => by have := hge g hg; omega); have hvals := (HVL.out.go (kept_lk (by omega) hbl)).append ((RowVals.one HOY.out).go (kept_lk (by omega) hbl)); have HOZ := Lib.hid hown'; have HVZ := Lib.hid hvals; replace hbi := hbn; replace hsi := hbi.size; clear hgrow hown' hvals hge hbl hbn; have HS := Lib.hid (S3.out HI.out hq); clear hq e0 e1 e2 e3 e4 e5; go_wp2; exact ⟨⟨k + 1, n + 1 + 1, true, _, _, by omega, by go_num, rfl, HS.out, by rw [List.length_append, List.length_append, ← HN.out]; rfl, by have h := HI.out.2; have := HN.out; simp only [Bool.false_eq_true, if_false] at h; omega, hbi, hsi, HOZ.out, by simpa [List.append_assoc] using HVZ.out⟩, by simp [intOf]; omega⟩
              · (have d9 : decide (q < 0) = false := by simpa using hq); rw [d9]; go_wp2_with (at_builtin; refine wpList_append_own _ rfl _ _ 27 rfl wo.heap.size 39 i0 _ 6 64 Tryz.underlying27 hi hz0 hz1 hz2'.out rfl (by decide) _ _ _ rfl (HO1.out.alloc _) ⟨x.heap.size, 0, none⟩ 1 1 [.int .u8 u0, .int .u64 u1, .int .u64 u2, .int .u64 u3, .int .u64 u4, .slice ul us.length uc] rfl rfl ?n1 ?n2 ?n3 ?n4 ?n5 ?_)
                case n2 => exact ⟨rfl, rfl, rfl, rfl, rfl, rfl⟩
                case n3 => unfold maxLen; omega
                case n4 => omega
                case n5 => omega
                intro vy y hown' hgrow _; have hge := ownR_ge HO1.out; have hbn : Below wo.heap.size wo y := (hbi.alloc hbi.size _).grown hgrow (by simp; omega) hge; have hbl : Below B x y := ((Below.refl B x).alloc (by omega) _).grown hgrow (by simp; omega) (fun g hg => by have := hge g hg; omega); have hvals := (HV1.out.go (kept_lk (by omega) hbl)).append ((RowVals.one HOX.out).go (kept_lk (by omega) hbl)); have HOW := Lib.hid hown'; have HVL := Lib.hid hvals; replace hbi := hbn; replace hsi := hbi.size; clear hgrow hown' hvals hge hbl hbn; have HS := Lib.hid (S2.out HI.out hq); clear hq c0 c1 c2 c3 c4 c5 e0 e1 e2 e3 e4 e5; go_wp2; exact ⟨⟨k + 1, n + 1, false, _, _, by omega, by go_num, rfl, HS.out, by rw [List.length_append, ← HN.out]; rfl, by omega, hbi, hsi, HOW.out, HVL.out⟩, by simp [intOf]; omega⟩
        · (have hke : k = O.length := by omega)
          cases dn with
          | true =>
            have hM := insAt_end HI.out hke; rw [← HST.out] at hM; obtain ⟨alM, capM, hv, hcM, hoM⟩ := out_of_own (n := wo.heap.size) (by rw [← HN.out]; exact HO.out) HV.out; subst hv; have HM := Lib.hid hM; have HOM := Lib.hid hoM; have hbo : Below w.heap.size w wr := hb.trans (hbi.mono hsz)
            have hoM' : OutAt P w.heap.size B wr alM M := by
              rcases hoM with h | ⟨g, off, e, h1, h2, h3⟩
              · exact .inl h
              · exact .inr ⟨g, off, e, by omega, h2, h3⟩
            have HOM' := Lib.hid hoM'; clear hM hoM hoM' hke; go_wp2; exact ⟨⟨i + 1, M, alM, capM, by omega, by go_num, HM.out.symm, rfl, hcM, HOM'.out, hbo⟩, by simp [intOf]; omega⟩
          | false =>
            have hM := insAt_last HI.out hke; rw [← HST.out] at hM; have hge := ownR_ge HO.out; (have hMl : n = O.length := by have h := HI.out.2; have h2 := HN.out; simp at h; omega); obtain ⟨c0, c1, c2, c3, c4, c5⟩ := HCR.out _ hbi; have HRX := Lib.hid (HRE.out.below hbi); have hbw : b < wr.heap.size := Nat.lt_of_lt_of_le hbr hsi; have HM := Lib.hid hM; clear hM hke; go_wp2_with (at_builtin; refine wpList_append_own _ rfl _ _ 27 rfl wo.heap.size 39 i0 _ 6 64 Tryz.underlying27 hi hz0 hz1 hz2'.out rfl (by decide) _ _ _ rfl (HO.out.alloc _) ⟨wr.heap.size, 0, none⟩ 1 1 [.int .u8 k', .int .u64 ta, .int .u64 tb, .int .u64 tc, .int .u64 td, .slice al' ks'.length cap'] rfl rfl ?c1 ?c2 ?c3 ?c4 ?c5 ?_)
            case c1 => exact six_cells wr _ _ _ _ _ _
            case c2 => intro u hu; simp at hu; rcases hu with rfl | rfl | rfl | rfl | rfl | rfl <;> rfl
            case c3 => unfold maxLen; omega
            case c4 => omega
            case c5 => simp; omega
            intro vy y hown' hgrow _; have hbn : Below wo.heap.size wo y := (hbi.alloc hbi.size _).grown hgrow (by simp; omega) hge; have hbl : Below B wr y := ((Below.refl B wr).alloc (by omega) _).grown hgrow (by simp; omega) (fun g hg => by have := hge g hg; omega); have hvals := (HV.out.go (kept_lk (by omega) hbl)).append ((RowVals.one HRX.out).go (kept_lk (by omega) hbl)); obtain ⟨alM, capM, hv, hcM, hoM⟩ := out_of_own (n := wo.heap.size) (O := M ++ [r]) (by rw [List.length_append, ← HN.out, hMl, hOl]; exact hown') hvals; subst hv; have hbo : Below w.heap.size w y := hb.trans (hbn.mono hsz)
            have hoM' : OutAt P w.heap.size B y alM (M ++ [r]) := by
              rcases hoM with h | ⟨g, off, e, h1, h2, h3⟩
              · exact .inl h
              · exact .inr ⟨g, off, e, by omega, h2, h3⟩
            have HOM' := Lib.hid hoM'; clear hgrow hown' hvals hge hbl hbn hoM hoM' c0 c1 c2 c3 c4 c5; go_wp2; exact ⟨⟨i + 1, M ++ [r], alM, capM, by omega, by go_num, HM.out.symm, rfl, hcM, HOM'.out, hbo⟩, by simp [intOf]; omega⟩
    · have he : l.take i = l := List.take_of_length_le (by omega); rw [HEQ.out, he] at HOUT; rw [HEQ.out, he] at hcapO; (have hle : O.length = (sortR l).length := by rw [HEQ.out, he]); have HLE := Lib.hid hle; have HOR := Lib.hid HOUT.out.row; clear hle he; go_wp2; go_ret; exact ⟨alO, capO, by rw [← HLE.out]; rfl, hcapO, HOR.out, hb⟩
end Go.Proofs.YthgghaaddankoaaGreatDoor.Kx
/- Lemmas of mine. -/
namespace Go.Proofs.YthgghaaddankoaaGreatDoor.Kx
open Go.RowKit
variable {P : Nat → Prop}
def OwnL (P : Nat → Prop) (base B : Nat) (l : List Ex) (x : Value) (w : World) : Prop := B ≤ w.heap.size ∧ ∃ xs, w.ownsRow base 39 6 x l.length xs ∧ RowVals (Lk P B) w xs (l.map Ex.rx)
theorem OwnL.below {base B : Nat} {l : List Ex} {x : Value} {w w' : World} (h : OwnL P base B l x w) (hb : Below w.heap.size w w') : OwnL P base B l x w' := by
  obtain ⟨hB, xs, h1, h2⟩ := h; exact ⟨Nat.le_trans hB hb.size, xs, ownR_below h1 hb, h2.go (kept_lk hB (hb.mono hB))⟩
theorem OwnL.row {base B : Nat} {l : List Ex} {x : Value} {w : World} (h : OwnL P base B l x w) : ∃ al cap, x = .slice al (l.map Ex.rx).length cap ∧ (l.map Ex.rx).length ≤ cap ∧ RowAt (okN (Lk P B) base) w al (l.map Ex.rx) := by
  obtain ⟨_, xs, h1, h2⟩ := h; exact row_of_own (by rw [List.length_map]; exact h1) h2
def SP.own (P : Nat → Prop) (base B : Nat) (l : List Ex) : SP := ⟨OwnL P base B l, fun _ _ _ h hb => h.below hb⟩
theorem own_append {base B : Nat} {l m : List Ex} {v v' : Value} {n : Nat} {W W' : World} {xs ys : List Value} (hB : B ≤ base) (hbase : base ≤ W.heap.size) (hn : n = l.length) (h1 : RowVals (Lk P B) W xs (l.map Ex.rx)) (h2 : RowVals (Lk P B) W ys (m.map Ex.rx)) (hv : ∀ g, v.ownBlock = some g → base ≤ g) (hown : W'.ownsRow base 39 6 v' (n + (m.map Ex.rx).length) (xs ++ ys)) (hg : W.grownBy W' v.ownBlock) : OwnL P base B (l ++ m) v' W' := by
  have hb : Below B W W' := (Below.refl B W).grown hg (Nat.le_trans hB hbase) (fun g h => Nat.le_trans hB (hv g h)); refine ⟨Nat.le_trans (Nat.le_trans hB hbase) hb.size, xs ++ ys, ?_, ?_⟩
  · rw [List.length_append, ← hn]
    simpa using hown
  · rw [List.map_append]; exact (h1.go (kept_lk (Nat.le_trans hB hbase) hb)).append (h2.go (kept_lk (Nat.le_trans hB hbase) hb))
def FlPost (P : Nat → Prop) (B : Nat) (l : List Ex) (w : World) (x : Ending) (w' : World) : Prop := ∃ v, x = .returned v ∧ OwnL P w.heap.size B l v w' ∧ Below w.heap.size w w'
theorem own_one {w : World} {B g : Nat} {e : Ex} {c0 c1 c2 c3 c4 c5 : Value} (hB : B ≤ g) (hg : w.heap[g]? = some (.cells #[c0, c1, c2, c3, c4, c5] 39)) {B' : Nat} (hB' : B' ≤ w.heap.size) (h : ReAt (Lk P B') w (.agg #[c0, c1, c2, c3, c4, c5]) e.rx) : OwnL P B B' [e] (.slice (some ⟨g, 0, none⟩) 1 1) w :=
  ⟨hB', _, ⟨rfl, .inr ⟨g, 1, _, rfl, hB, hg, Nat.le_refl _, by decide, rfl, rfl⟩⟩, RowVals.one h⟩
theorem own_none {w : World} {B g : Nat} (hB : B ≤ g) (hg : w.heap[g]? = some (.cells #[] 39)) {B' : Nat} (hB' : B' ≤ w.heap.size) : OwnL P B B' [] (.slice (some ⟨g, 0, none⟩) 0 0) w :=
  ⟨hB', [], ⟨rfl, .inr ⟨g, 0, #[], rfl, hB, hg, Nat.le_refl _, Nat.zero_le _, rfl, rfl⟩⟩, RowVals.nil _ _⟩
theorem own_le {base base' B : Nat} {l : List Ex} {x : Value} {w : World} (h : OwnL P base' B l x w) (hb : base ≤ base') : OwnL P base B l x w :=
  ⟨h.1, h.2.choose, own_mono h.2.choose_spec.1 hb, h.2.choose_spec.2⟩
set_option maxHeartbeats 8000000 in
set_option maxRecDepth 100000 in
theorem ref8flat (P : Nat → Prop) (B : Nat) (N : Nat) : ∀ (a : Ex), a.size ≤ N → a.size ≤ 1000000 → ∀ (v : Value) (w : World), B ≤ w.heap.size → ReAt (Lk P B) w v a.rx →
    Calls Tryz.prog 65 #[v] w (FlPost P B (flatE a) w) := by
  induction N with
  | zero => intro a hN; have := a.size_pos; omega
  | succ N ih =>
    intro a hN hbig v w hB h; obtain ⟨ka, ⟨sa, sb, sc, sd⟩, ksa, hsa⟩ := rx_form a; have HA := Lib.hid h; rw [hsa] at h; obtain ⟨_, _, al, cap, rfl, hcap, _, hrow⟩ := h; simp only at HA ⊢; have k1a := kind_emp hsa; have k5a := kind_alt hsa
    cases q1 : a.isEmp with
    | true =>
      rw [q1] at k1a; rw [show flatE a = [] from by rw [isEmp_iff.1 q1]; rfl]; clear q1 hrow ih hN hsa k5a HA hbig; go_enter Tryz.func65, Tryz.ntmps65; go_wp2; go_ret; exact ⟨_, rfl, own_none (by omega) (blk_at _ _ (by simp)) (by simp; omega), al2 w _ _⟩
    | false =>
    rw [q1] at k1a
    cases q2 : a.isAlt with
    | false =>
      rw [q2] at k5a; rw [flat_plain q1 q2]; clear q1 q2 hrow ih hN hsa hbig; go_enter Tryz.func65, Tryz.ntmps65; go_wp2; go_ret; exact ⟨_, rfl, own_one (by omega) (blk_at _ _ (by simp)) (by simp; omega) (HA.out.below (al2 w _ _)), al2 w _ _⟩
    | true =>
      rw [q2] at k5a
      cases a with
      | empty => cases q2
      | eps => cases q2
      | cls s => cases q2
      | seq c d => cases q2
      | star c => cases q2
      | alt c d =>
      show Calls _ _ _ w (FlPost P B (flatE c ++ flatE d) w); simp only [Ex.rx] at hsa; injection hsa with e1 e2 e3; subst e1; subst e3; obtain ⟨bk, off, rfl, hlt, hn0⟩ := hrow.kid (i := 0) (by simp); simp only [List.getElem_cons_zero, Nat.zero_mul, Nat.add_zero] at hn0; obtain ⟨bk', off', e', hlt', hn1⟩ := hrow.kid (i := 1) (by simp); simp at e'; obtain ⟨rfl, rfl⟩ := e'; simp only [List.getElem_cons_zero, List.getElem_cons_succ, Nat.one_mul] at hn1; (have hcap2 : 2 ≤ cap := by simpa using hcap); obtain ⟨kc, ⟨ca, cb, cc, cd⟩, ksc, hsc⟩ := rx_form c; obtain ⟨kd, ⟨da, db, dc, dd⟩, ksd, hsd⟩ := rx_form d; rw [hsc] at hn0; rw [hsd] at hn1; obtain ⟨al0, cap0, ⟨i0, i1, i2, i3, i4, i5⟩, hrc⟩ := hn0.read; obtain ⟨al1, cap1, ⟨j0, j1, j2, j3, j4, j5⟩, hrd⟩ := hn1.read; simp only at i0 i1 i2 i3 i4 i5 j0 j1 j2 j3 j4 j5; rw [← hsc] at hrc; rw [← hsd] at hrd; simp only [Ex.size] at hN hbig; have ic := ih c (by omega) (by omega); have id' := ih d (by omega) (by omega); have KC0 := Lib.hid fun W (hb : Below w.heap.size w W) => ic _ W (Nat.le_trans hB hb.size) (hrc.below hb); have KD0 := Lib.hid fun W (hb : Below w.heap.size w W) => id' _ W (Nat.le_trans hB hb.size) (hrd.below hb); have I6 := Lib.hid (show w.cell? ⟨bk, off, none⟩ = some (.int .u8 kc) ∧ w.cell? ⟨bk, off + 1, none⟩ = some (.int .u64 ca) ∧ w.cell? ⟨bk, off + 2, none⟩ = some (.int .u64 cb) ∧ w.cell? ⟨bk, off + 3, none⟩ = some (.int .u64 cc) ∧ w.cell? ⟨bk, off + 4, none⟩ = some (.int .u64 cd) ∧ w.cell? ⟨bk, off + 5, none⟩ = some (.slice al0 ksc.length cap0) from ⟨i0, i1, i2, i3, i4, i5⟩); have J6 := Lib.hid (show w.cell? ⟨bk, off + 6, none⟩ = some (.int .u8 kd) ∧ w.cell? ⟨bk, off + 6 + 1, none⟩ = some (.int .u64 da) ∧ w.cell? ⟨bk, off + 6 + 2, none⟩ = some (.int .u64 db) ∧ w.cell? ⟨bk, off + 6 + 3, none⟩ = some (.int .u64 dc) ∧ w.cell? ⟨bk, off + 6 + 4, none⟩ = some (.int .u64 dd) ∧ w.cell? ⟨bk, off + 6 + 5, none⟩ = some (.slice al1 ksd.length cap1) from ⟨j0, j1, j2, j3, j4, j5⟩); have hlc := flatE_len c; have hld := flatE_len d; have hlen : [c.rx, d.rx].length = 2 := rfl; rw [hlen, show (((5 : Nat) : Int)) = 5 from rfl]; clear k1a k5a hlen i0 i1 i2 i3 i4 i5 j0 j1 j2 j3 j4 j5 q1 q2 hrow ih ic id' hN hsc hsd HA hn0 hn1 hrc hrd hcap e2; have BX := Lib.hid (show (w.alloc (.cells #[.int .u8 5, .int .u64 sa, .int .u64 sb, .int .u64 sc, .int .u64 sd, .slice (some ⟨bk, off, none⟩) 2 cap] 39)).heap[w.heap.size]? = some (.cells #[.int .u8 5, .int .u64 sa, .int .u64 sb, .int .u64 sc, .int .u64 sd, .slice (some ⟨bk, off, none⟩) 2 cap] 39) ∧ Below w.heap.size w (w.alloc (.cells #[.int .u8 5, .int .u64 sa, .int .u64 sb, .int .u64 sc, .int .u64 sd, .slice (some ⟨bk, off, none⟩) 2 cap] 39)) from ⟨blk_new w _, (Below.refl _ w).alloc (Nat.le_refl _) _⟩); go_enter Tryz.func65, Tryz.ntmps65; go_wp2_with fail; obtain ⟨W, hW⟩ : ∃ x, x = w.alloc (.cells #[.int .u8 5, .int .u64 sa, .int .u64 sb, .int .u64 sc, .int .u64 sd, .slice (some ⟨bk, off, none⟩) 2 cap] 39) := ⟨_, rfl⟩; rw [← hW] at BX ⊢; clear hW; have WB := Lib.hid fun x (hx : Below W.heap.size W x) => BX.out.2.trans (hx.mono BX.out.2.size); have WX := Lib.hid fun x (hx : Below W.heap.size W x) => (WB.out x hx).size; have CX := Lib.hid fun x (hx : Below W.heap.size W x) => (cellsR ((hx.block _ (Array.getElem?_eq_some_iff.1 BX.out.1).1).trans BX.out.1)).2.2.2.2.2.1; have CC := Lib.hid fun x (hx : Below W.heap.size W x) => six_keep hlt I6.out (WB.out x hx); have CD := Lib.hid fun x (hx : Below W.heap.size W x) => six_keep hlt J6.out (WB.out x hx); have KC := Lib.hid fun x (hx : Below W.heap.size W x) => KC0.out x (WB.out x hx); have KD := Lib.hid fun x (hx : Below W.heap.size W x) => KD0.out x (WB.out x hx); refine wp_region_orderT 10 (fun i => ([SP.eq (.pointer (some ⟨w.heap.size, 5, none⟩)), SP.eq (.slice (some ⟨bk, off, none⟩) 2 cap), SP.eq (.pointer (some ⟨bk, off, none⟩)), SP.eq (.agg #[.int .u8 kc, .int .u64 ca, .int .u64 cb, .int .u64 cc, .int .u64 cd, .slice al0 ksc.length cap0]), SP.own P w.heap.size B (flatE c), SP.eq (.pointer (some ⟨w.heap.size, 5, none⟩)), SP.eq (.slice (some ⟨bk, off, none⟩) 2 cap), SP.eq (.pointer (some ⟨bk, off + 6, none⟩)), SP.eq (.agg #[.int .u8 kd, .int .u64 da, .int .u64 db, .int .u64 dc, .int .u64 dd, .slice al1 ksd.length cap1]), SP.own P w.heap.size B (flatE d)] : List SP).getD i SP.free) (fun _ => false) (fun _ _ _ h => by cases h) (by kernel_rfl) (by kernel_rfl) ⟨?_, ?_, ?_, ?_, ?_, ?_, ?_, ?_, ?_, ?_, trivial⟩ ?_
      · intro a x K out get hb hK; rw [if_pos (wanted_none rfl)]; have o1 : a.tmps[1]? = some (.pointer (some ⟨w.heap.size, 0, none⟩)) := out 1 (by kernel_rfl); clear out get; go_simp; exact hK _ _ rfl (Below.refl _ _) (fun h => by cases h)
      · intro a x K out get hb hK; rw [if_pos (wanted_none rfl)]; obtain ⟨y10, hy10, rfl⟩ := get 0 _ _ rfl rfl (by kernel_rfl); clear out get; have hk5 := CX.out x hb; go_simp; exact hK _ _ rfl (Below.refl _ _) (fun h => by cases h)
      · intro a x K out get hb hK; rw [if_pos (wanted_none rfl)]; obtain ⟨y11, hy11, rfl⟩ := get 1 _ _ rfl rfl (by kernel_rfl); clear out get; go_simp; exact hK _ _ rfl (Below.refl _ _) (fun h => by cases h)
      · intro a x K out get hb hK; rw [if_pos (wanted_none rfl)]; obtain ⟨y12, hy12, rfl⟩ := get 2 _ _ rfl rfl (by kernel_rfl); clear out get; obtain ⟨c0, c1, c2, c3, c4, c5⟩ := CC.out x hb; go_simp; exact hK _ _ rfl (Below.refl _ _) (fun h => by cases h)
      · intro a x K out get hb hK; rw [if_pos (wanted_none rfl)]; obtain ⟨y13, hy13, rfl⟩ := get 3 _ _ rfl rfl (by kernel_rfl); clear out get; go_simp; refine (KC.out x hb).mono ?_; rintro e w2 ⟨v2, rfl, hv2, hb2⟩; exact hK _ _ (own_le hv2 (WX.out x hb)) hb2 (fun h => by cases h)
      · intro a x K out get hb hK; rw [if_pos (wanted_none rfl)]; have o1 : a.tmps[1]? = some (.pointer (some ⟨w.heap.size, 0, none⟩)) := out 1 (by kernel_rfl); clear out get; go_simp; exact hK _ _ rfl (Below.refl _ _) (fun h => by cases h)
      · intro a x K out get hb hK; rw [if_pos (wanted_none rfl)]; obtain ⟨y15, hy15, rfl⟩ := get 5 _ _ rfl rfl (by kernel_rfl); clear out get; have hk5 := CX.out x hb; go_simp; exact hK _ _ rfl (Below.refl _ _) (fun h => by cases h)
      · intro a x K out get hb hK; rw [if_pos (wanted_none rfl)]; obtain ⟨y16, hy16, rfl⟩ := get 6 _ _ rfl rfl (by kernel_rfl); clear out get; go_simp; exact hK _ _ rfl (Below.refl _ _) (fun h => by cases h)
      · intro a x K out get hb hK; rw [if_pos (wanted_none rfl)]; obtain ⟨y17, hy17, rfl⟩ := get 7 _ _ rfl rfl (by kernel_rfl); clear out get; obtain ⟨c0, c1, c2, c3, c4, c5⟩ := CD.out x hb; go_simp; exact hK _ _ rfl (Below.refl _ _) (fun h => by cases h)
      · intro a x K out get hb hK; rw [if_pos (wanted_none rfl)]; obtain ⟨y18, hy18, rfl⟩ := get 8 _ _ rfl rfl (by kernel_rfl); clear out get; go_simp; refine (KD.out x hb).mono ?_; rintro e w2 ⟨v2, rfl, hv2, hb2⟩; exact hK _ _ (own_le hv2 (WX.out x hb)) hb2 (fun h => by cases h)
      refine ao_finT (isD := fun s => (decide (10 ≤ s) && decide (s ≤ 20)) || decide (s = 2)) (by kernel_rfl) ?_; intro f x hv hne hb; clear hne; obtain ⟨_, xs, o14, v14⟩ : OwnL P w.heap.size B (flatE c) (f 14) x := hv 4 _ _ (by decide) rfl rfl; obtain ⟨_, ys, o19, v19⟩ : OwnL P w.heap.size B (flatE d) (f 19) x := hv 9 _ _ (by decide) rfl rfl; have hxw := Lib.hid (WB.out x hb); have V14 := Lib.hid v14; have V19 := Lib.hid v19; have O14 := Lib.hid o14; have O19 := Lib.hid o19; clear hv hb v14 v19 o14 o19; simp only [frm, List.drop_succ_cons, List.drop_zero]; simp; generalize f 14 = v1 at *; generalize f 19 = v2 at *; generalize f 2 = u2 at *; generalize f 10 = u10 at *; generalize f 11 = u11 at *; generalize f 12 = u12 at *; generalize f 13 = u13 at *; generalize f 15 = u15 at *; generalize f 16 = u16 at *; generalize f 17 = u17 at *; generalize f 18 = u18 at *; generalize f 20 = u20 at *; clear f; refine wpList_append_owns rfl _ _ rfl w.heap.size v1 (flatE c).length xs rfl O14.out w.heap.size v2 (flatE d).length ys rfl O19.out V19.out.cells1 (by omega) hxw.out.size ?_; intro v' W' g1 g2; have hge := ownR_ge O14.out; have hO := Lib.hid (own_append (l := flatE c) (m := flatE d) hB hxw.out.size rfl V14.out V19.out hge (by rw [List.length_map]; exact g1) g2); have hbb := Lib.hid (hxw.out.grown g2 hxw.out.size hge); clear g1 g2 hge; go_wp2; go_ret; exact ⟨_, rfl, hO.out, hbb.out⟩
end Go.Proofs.YthgghaaddankoaaGreatDoor.Kx
/- Lemmas of mine. -/
namespace Go.Proofs.YthgghaaddankoaaGreatDoor
open Go.RowKit
def sizeL (l : List Ex) : Nat := (l.map Ex.size).sum
theorem flats_len : ∀ l : List Ex, (l.flatMap flatE).length ≤ sizeL l
  | [] => by simp [sizeL]
  | x :: l => by
    have h1 := flats_len l; have h2 := flatE_len x; simp [sizeL] at h1 ⊢; omega
theorem sizeL_take (l : List Ex) (i : Nat) : sizeL (l.take i) ≤ sizeL l := by
  have h : sizeL l = sizeL (l.take i) + sizeL (l.drop i) := by
    conv => lhs; rw [← List.take_append_drop i l]
    simp [sizeL, -List.take_append_drop]
  omega
theorem sizeL_get {l : List Ex} {i : Nat} (h : i < l.length) : l[i].size ≤ sizeL l := by
  have h1 := sizeL_take l (i + 1); rw [List.take_succ_eq_append_getElem h] at h1; unfold sizeL at h1 ⊢; rw [List.map_append, List.sum_append] at h1; simp only [List.map_cons, List.map_nil, List.sum_cons, List.sum_nil] at h1; omega
theorem flats_take {l : List Ex} {i : Nat} (h : i < l.length) : (l.take (i + 1)).flatMap flatE = (l.take i).flatMap flatE ++ flatE l[i] := by
  rw [List.take_succ_eq_append_getElem h, List.flatMap_append]; simp
theorem setE_snoc (l : List Ex) (s : Ws) : setE (l ++ [.cls s]) = (setE l).join s := by
  unfold setE; rw [List.filterMap_append, List.foldl_append]
  rfl
theorem setE_other {l : List Ex} {e : Ex} (h : e.isCls = false) : setE (l ++ [e]) = setE l := by
  unfold setE
  have h1 : [e].filterMap clsS = [] := by cases e <;> first | rfl | (simp [Ex.isCls] at h)
  rw [List.filterMap_append, h1, List.append_nil]
theorem restE_snoc (l : List Ex) (s : Ws) : restE (l ++ [.cls s]) = restE l := by simp [restE, Ex.isCls]
theorem restE_other {l : List Ex} {e : Ex} (h : e.isCls = false) : restE (l ++ [e]) = restE l ++ [e] := by simp [restE, h]
theorem bel_al2 (w : World) (o : Obj) : Below w.heap.size w (w.alloc o) := (Below.refl _ w).alloc (Nat.le_refl _) o
theorem rest_len (l : List Ex) : (restE l).length ≤ l.length := List.length_filter_le _ _
end Go.Proofs.YthgghaaddankoaaGreatDoor
/- Lemmas of mine. -/
namespace Go.Proofs.YthgghaaddankoaaGreatDoor.Kx
open Go.RowKit
variable {P : Nat → Prop}
def altInv1 (P : Nat → Prop) (B : Nat) (l : List Ex) (w : World) (v y : Value) (wr : World) : Prop := ∃ i : Nat, i ≤ l.length ∧ y = .int .i64 i ∧ OwnL P (w.heap.size + 1) B ((l.take i).flatMap flatE) v wr ∧ wr.heap[w.heap.size]? = some zR ∧ Below w.heap.size w wr
def altInv2 (P : Nat → Prop) (A : List Ex) (W : World) (v y : Value) (wr : World) : Prop := ∃ k : Nat, k ≤ A.length ∧ y = .int .i64 k ∧ OwnL P (W.heap.size + 1) W.heap.size (restE (A.take k)) v wr ∧ Box wr W.heap.size (setE (A.take k)) ∧ Below W.heap.size W wr
theorem OwnL.put4 {base B g : Nat} {l : List Ex} {x : Value} {w : World} (h : OwnL P base B l x w) (hg : g < base) (hB : B ≤ g) (y0 y1 y2 y3 : Value) : OwnL P base B l x ((((w.setCell ⟨g, 0, none⟩ y0).setCell ⟨g, 1, none⟩ y1).setCell ⟨g, 2, none⟩ y2).setCell ⟨g, 3, none⟩ y3) := by
  have hblk : ∀ b, b ≠ g → ((((w.setCell ⟨g, 0, none⟩ y0).setCell ⟨g, 1, none⟩ y1).setCell ⟨g, 2, none⟩ y2).setCell ⟨g, 3, none⟩ y3).heap[b]? = w.heap[b]? := fun b hb => by
    simp [World.setCell, Array.getElem?_modify, Ne.symm hb]
  (have hsz : ((((w.setCell ⟨g, 0, none⟩ y0).setCell ⟨g, 1, none⟩ y1).setCell ⟨g, 2, none⟩ y2).setCell ⟨g, 3, none⟩ y3).heap.size = w.heap.size := by simp [World.setCell]); obtain ⟨h0, xs, ⟨h1, h2⟩, h3⟩ := h; refine ⟨by rw [hsz]; exact h0, xs, ⟨h1, ?_⟩, h3.go ⟨by rw [hsz]; exact Nat.le_refl _, fun b _ hb => ⟨hb, hblk b (fun e => by have := hb.2; omega)⟩⟩⟩
  rcases h2 with h2 | ⟨g', cap, cur, rfl, hB', hg', hr⟩
  · exact .inl h2
  · exact .inr ⟨g', cap, cur, rfl, hB', (hblk g' (by omega)).trans hg', hr⟩
set_option maxHeartbeats 8000000 in
set_option maxRecDepth 100000 in
theorem ref8alt (P : Nat → Prop) (B : Nat) (l : List Ex) (al : Option Addr) (cap : Nat) (w : World) (hB : B ≤ w.heap.size) (hR : RowAt (Lk P B) w al (l.map Ex.rx)) (hw : Ex.Wfs l) (hsz : sizeL l ≤ 900000) (hl : l.length ≤ 1000000) :
    Calls Tryz.prog 46 #[.slice al l.length cap] w (ExPost (Lk P B) (altE l) w) := by
  have HR := Lib.hid hR; clear hR; go_enter Tryz.func46, Tryz.ntmps46; go_wp2
  go_loopw [3, 11] (fun v y wr => altInv1 P B l w v y wr) (fun _ y _ => l.length - (intOf y).toNat)
  case atStart =>
    exact ⟨0, Nat.zero_le _, rfl, own_none (Nat.le_refl _) (blk_at _ _ (by simp)) (by simp; omega), (Below.heap_alloc _ _ _ (by simp)).trans (blk_new w _), al2 w _ _⟩
  case round =>
    obtain ⟨i, hi, rfl, hown, hz, hb⟩ := hrel; have HO := Lib.hid hown; have HZ := Lib.hid hz; have hlen1 : ((l.take i).flatMap flatE).length ≤ 900000 := Nat.le_trans (flats_len _) (Nat.le_trans (sizeL_take l i) hsz); have hszr := hb.size; clear hown hz
    by_cases hlt : i < l.length
    · (have hlt' : i < (l.map Ex.rx).length := by rw [List.length_map]; exact hlt); obtain ⟨b, off, hab, hblt, hnode⟩ := HR.out.kid hlt'; subst hab; have hkid := NodeAt.below hb _ hblt hnode; rw [List.getElem_map] at hkid; have hsi := sizeL_get hlt; have htk := flats_take hlt; have hli := flatE_len l[i]; have hlt2 : ((l.take (i + 1)).flatMap flatE).length ≤ 900000 := Nat.le_trans (flats_len _) (Nat.le_trans (sizeL_take l (i + 1)) hsz); rw [htk, List.length_append] at hlt2; have KF := fun v (h : ReAt (Lk P B) wr v l[i].rx) => ref8flat P B l[i].size l[i] (Nat.le_refl _) (by omega) v wr (Nat.le_trans hB hszr) h; have HTK := Lib.hid htk; clear hnode htk; generalize l[i] = e at *; obtain ⟨k', ⟨ta, tb, tc, td⟩, ks', he⟩ := rx_form e; rw [he] at hkid; obtain ⟨al', cap', ⟨c0, c1, c2, c3, c4, c5⟩, hre⟩ := hkid.read; simp only at c0 c1 c2 c3 c4 c5; rw [← he] at hre; have K := Lib.hid (KF _ hre); clear hkid hre KF he; (have q1 : (i : Int) < (l.length : Int) := by omega); go_wp2_with fail; refine K.out.mono ?_; rintro x w1 ⟨v1, rfl, ⟨_, ys, o1, vv1⟩, hb1⟩; obtain ⟨_, xs, o0, vv0⟩ := HO.out.below hb1; have hbw := Lib.hid (hb.trans (hb1.mono hb.size)); have hz1 := Lib.hid ((hb1.block _ (Array.getElem?_eq_some_iff.1 HZ.out).1).trans HZ.out); have O0 := Lib.hid o0; have O1 := Lib.hid o1; have V0 := Lib.hid vv0; have V1 := Lib.hid vv1; have hbs : w.heap.size + 1 ≤ w1.heap.size := (Array.getElem?_eq_some_iff.1 hz1.out).1; clear o0 o1 vv0 vv1 hb1 c0 c1 c2 c3 c4 c5 K HO; obtain ⟨nA, hnA⟩ : ∃ n, n = ((l.take i).flatMap flatE).length := ⟨_, rfl⟩; obtain ⟨nE, hnE⟩ : ∃ n, n = (flatE e).length := ⟨_, rfl⟩; rw [← hnA] at O0; rw [← hnE] at O1; (have hsum : nA + nE ≤ 1000000 := by omega); have HNA := Lib.hid hnA; have HNE := Lib.hid hnE; clear hnA hnE hlt2 hlen1 hli; go_wp2_with (at_builtin; refine wpList_append_owns rfl _ _ rfl (w.heap.size + 1) _ nA xs rfl O0.out wr.heap.size v1 nE ys rfl O1.out V1.out.cells1 hsum hbs ?_); intro v' W' g1 g2; have hge := ownR_ge O0.out; have hO := own_append (l := (l.take i).flatMap flatE) (m := flatE e) (Nat.le_trans hB (Nat.le_succ _)) hbs HNA.out V0.out V1.out hge (by rw [List.length_map, ← HNE.out]; exact g1) g2; have hbb := hbw.out.grown g2 hbw.out.size (fun g h => Nat.le_of_succ_le (hge g h)); have hz2 := (g2.block w.heap.size hbs (fun e => by have := hge _ e.symm; omega)).trans hz1.out; rw [← HTK.out] at hO; have HO2 := Lib.hid hO; have HB2 := Lib.hid hbb; have HZ2 := Lib.hid hz2; clear g1 g2 hge hO hbb hz2; go_wp2; exact ⟨⟨i + 1, by omega, by go_num, HO2.out, HZ2.out, HB2.out⟩, by simp [intOf]; omega⟩
    · have he : l.take i = l := List.take_of_length_le (by omega); rw [he] at HO; clear he hlen1; obtain ⟨alA, capA, hv3, hcapA, hrowA⟩ := HO.out.row; rw [List.length_map] at hv3 hcapA; subst hv3; have hwA := flats_wf hw; have hlA : (l.flatMap flatE).length ≤ 900000 := Nat.le_trans (flats_len l) hsz; have HV := Lib.hid (show altE l = foldA (canE (gathE (l.flatMap flatE))) from rfl); obtain ⟨Q, hQ⟩ : ∃ q, q = okN (Lk P B) w.heap.size := ⟨_, rfl⟩; have HQB := Lib.hid (show ∀ b, w.heap.size ≤ b → Q b from fun b hb => by rw [hQ]; exact .inr hb); have HQE := Lib.hid hQ; have HRA := Lib.hid (show RowAt (Lk Q wr.heap.size) wr alA ((l.flatMap flatE).map Ex.rx) from hrowA.imp fun b hb h => ⟨by rw [hQ]; exact Or.elim h Or.inl (fun g => .inr (Nat.le_of_succ_le g)), hb⟩); clear hQ; have HBW := Lib.hid hb; clear hrowA HO HR hw hsz hB; generalize l.flatMap flatE = A at *; obtain ⟨nA, hnA⟩ : ∃ n, n = A.length := ⟨_, rfl⟩; rw [← hnA] at hcapA hlA ⊢; have HNA := Lib.hid hnA; clear hnA; obtain ⟨W7, hW7⟩ : ∃ x, x = wr := ⟨_, rfl⟩; subst hW7; go_wp2; clear hlt hi hl
      go_loopw [6, 26] (fun v y wr => altInv2 Q A W7 v y wr) (fun _ y _ => A.length - (intOf y).toNat)
      case atStart =>
        refine ⟨0, Nat.zero_le _, rfl, own_none (by simp) (blk_at _ _ (by simp)) (by simp; omega), ?_, al2 W7 _ _⟩; exact (Box.zero W7).alloc _
      case round =>
        obtain ⟨k, hk, rfl, hown, hbox, hb2⟩ := hrel; have HO := Lib.hid hown; have HX := Lib.hid hbox
        have hlr : (restE (A.take k)).length ≤ 900000 := by
          have h1 := rest_len (A.take k); have h2 := List.length_take_le k A; have := HNA.out; omega
        have hs2 := hb2.size; clear hown hbox
        by_cases hlt : k < A.length
        · (have hlt' : k < (A.map Ex.rx).length := by rw [List.length_map]; exact hlt); obtain ⟨bA, offA, hab, hblt, hnode⟩ := HRA.out.kid hlt'; subst hab; rw [List.getElem_map] at hnode; have hwe := hwA A[k] (List.getElem_mem hlt); have htk : A.take (k + 1) = A.take k ++ [A[k]] := List.take_succ_eq_append_getElem hlt; have hsok : (setE (A.take k)).Ok := setE_ok fun x hx => hwA x (List.mem_of_mem_take hx); (have q1 : (k : Int) < (nA : Int) := by have := HNA.out; omega); (have q0 : k < nA := by have := HNA.out; omega); generalize A[k] = e at *; obtain ⟨k', ⟨ta, tb, tc, td⟩, ks', he⟩ := rx_form e; have kc := kind_cls he; rw [he] at hnode; obtain ⟨al', cap', ⟨c0w, c1w, c2w, c3w, c4w, c5w⟩, hre⟩ := hnode.read; simp only at c0w c1w c2w c3w c4w c5w; rw [← he] at hre; have HC := Lib.hid (show W7.cell? ⟨bA, offA + k * 6, none⟩ = some (.int .u8 k') ∧ W7.cell? ⟨bA, offA + k * 6 + 1, none⟩ = some (.int .u64 ta) ∧ W7.cell? ⟨bA, offA + k * 6 + 2, none⟩ = some (.int .u64 tb) ∧ W7.cell? ⟨bA, offA + k * 6 + 3, none⟩ = some (.int .u64 tc) ∧ W7.cell? ⟨bA, offA + k * 6 + 4, none⟩ = some (.int .u64 td) ∧ W7.cell? ⟨bA, offA + k * 6 + 5, none⟩ = some (.slice al' ks'.length cap') from ⟨c0w, c1w, c2w, c3w, c4w, c5w⟩); have HRE := Lib.hid hre; have HTK := Lib.hid htk; clear hnode hre htk c0w c1w c2w c3w c4w c5w hlt'; obtain ⟨c0, c1, c2, c3, c4, c5⟩ := six_keep hblt HC.out hb2
          cases qc : e.isCls with
          | true =>
            rw [qc] at kc
            cases e with
            | empty => cases qc
            | eps => cases qc
            | seq a b => cases qc
            | alt a b => cases qc
            | star a => cases qc
            | cls s =>
            simp only [Ex.rx] at he; injection he with e1 e2 e3; subst e1; subst e2; have HN1 := Lib.hid (show restE (A.take (k + 1)) = restE (A.take k) from by rw [HTK.out, restE_snoc]); have HN2 := Lib.hid (show setE (A.take (k + 1)) = (setE (A.take k)).join ⟨ta, tb, tc, td⟩ from by rw [HTK.out, setE_snoc]); have hws : (Ws.mk ta tb tc td).Ok := hwe.1; have KJ0 := Lib.hid fun W => refJoin_any (setE (A.take k)) ⟨ta, tb, tc, td⟩ W hsok hws; generalize (setE (A.take k)).join ⟨ta, tb, tc, td⟩ = J at *; generalize setE (A.take k) = Z at *; obtain ⟨j0, j1, j2, j3⟩ := J; obtain ⟨z0, z1, z2, z3⟩ := Z; unfold Ws.v at KJ0; simp only at KJ0; go_wp2_with fail; have CN := Lib.hid fun x (hx : Below wr.heap.size wr x) => six_keep hblt HC.out (hb2.trans (hx.mono hs2)); have CS := Lib.hid fun x (hx : Below wr.heap.size wr x) => (HX.out.below hx HX.out.lt).cells; simp only at CS; have KJ := Lib.hid fun x => KJ0.out x; refine wp_region_orderT 7 (fun i => ([SP.eq (.agg #[.int .u64 z0, .int .u64 z1, .int .u64 z2, .int .u64 z3]), SP.eq (.slice (some ⟨bA, offA, none⟩) nA capA), SP.eq (.int .i64 k), SP.eq (.pointer (some ⟨bA, offA + k * 6, none⟩)), SP.eq (.pointer (some ⟨bA, offA + k * 6 + 1, none⟩)), SP.eq (.agg #[.int .u64 ta, .int .u64 tb, .int .u64 tc, .int .u64 td]), SP.eq (.agg #[.int .u64 j0, .int .u64 j1, .int .u64 j2, .int .u64 j3])] : List SP).getD i SP.free) (fun _ => false) (fun _ _ _ h => by cases h) (by kernel_rfl) (by kernel_rfl) ⟨?_, ?_, ?_, ?_, ?_, ?_, ?_, trivial⟩ ?_
            · intro a x K out get hb hK; rw [if_pos (wanted_none rfl)]; have o5 : a.tmps[5]? = some (.pointer (some ⟨W7.heap.size, 0, none⟩)) := out 5 (by kernel_rfl); obtain ⟨c0, c1, c2, c3⟩ := CS.out x hb; clear out get; go_simp; exact hK _ _ rfl (Below.refl _ _) (fun h => by cases h)
            · intro a x K out get hb hK; rw [if_pos (wanted_none rfl)]; have o3 : a.tmps[3]? = some (.slice (some ⟨bA, offA, none⟩) nA capA) := out 3 (by kernel_rfl); clear out get; go_simp; exact hK _ _ rfl (Below.refl _ _) (fun h => by cases h)
            · intro a x K out get hb hK; rw [if_pos (wanted_none rfl)]; have o7 : a.tmps[7]? = some (.int .i64 k) := out 7 (by kernel_rfl); clear out get; go_simp; exact hK _ _ rfl (Below.refl _ _) (fun h => by cases h)
            · intro a x K out get hb hK; rw [if_pos (wanted_none rfl)]; obtain ⟨y36, hy36, rfl⟩ := get 1 _ _ rfl rfl (by kernel_rfl); obtain ⟨y37, hy37, rfl⟩ := get 2 _ _ rfl rfl (by kernel_rfl); clear out get; go_simp; exact hK _ _ rfl (Below.refl _ _) (fun h => by cases h)
            · intro a x K out get hb hK; rw [if_pos (wanted_none rfl)]; obtain ⟨y38, hy38, rfl⟩ := get 3 _ _ rfl rfl (by kernel_rfl); clear out get; go_simp; exact hK _ _ rfl (Below.refl _ _) (fun h => by cases h)
            · intro a x K out get hb hK; rw [if_pos (wanted_none rfl)]; obtain ⟨y39, hy39, rfl⟩ := get 4 _ _ rfl rfl (by kernel_rfl); clear out get; obtain ⟨c0, c1, c2, c3, c4, c5⟩ := CN.out x hb; go_simp; exact hK _ _ rfl (Below.refl _ _) (fun h => by cases h)
            · intro a x K out get hb hK; rw [if_pos (wanted_none rfl)]; obtain ⟨y35, hy35, rfl⟩ := get 0 _ _ rfl rfl (by kernel_rfl); obtain ⟨y40, hy40, rfl⟩ := get 5 _ _ rfl rfl (by kernel_rfl); clear out get; go_simp; refine (KJ.out x).mono ?_; rintro e w2 ⟨rfl, hb2⟩; exact hK _ _ rfl hb2 (fun h => by cases h)
            refine ao_finT (isD := fun s => decide (35 ≤ s) && decide (s ≤ 41)) (by kernel_rfl) ?_; intro f x hv hne hb; clear hne; have f41 : f 41 = .agg #[.int .u64 j0, .int .u64 j1, .int .u64 j2, .int .u64 j3] := hv 6 _ _ (by decide) rfl rfl; have HX3 := Lib.hid (HX.out.below hb HX.out.lt); have HO3 := Lib.hid (HO.out.below hb); have HB3 := Lib.hid (hb2.trans (hb.mono hs2)); obtain ⟨⟨d0, d1, d2, d3⟩, g0, g1, g2, g3⟩ := HX3.out.all; simp only at d0 d1 d2 d3; clear hv hb c0 c1 c2 c3 c4 c5; simp only [frm, List.drop_succ_cons, List.drop_zero]; simp; rw [f41]; generalize f 35 = u135 at *; generalize f 36 = u136 at *; generalize f 37 = u137 at *; generalize f 38 = u138 at *; generalize f 39 = u139 at *; generalize f 40 = u140 at *; clear f41 f; go_wp2; refine ⟨⟨k + 1, by omega, by go_num, ?_, ?_, below_put HB3.out (Nat.le_refl _) _ _ _ _⟩, by simp [intOf]; omega⟩
            · rw [HN1.out]; exact HO3.out.put4 (Nat.lt_succ_self _) (Nat.le_refl _) _ _ _ _
            · rw [HN2.out]; exact HX3.out.put4 j0 j1 j2 j3
          | false =>
            rw [qc] at kc; have HN1 := Lib.hid (show restE (A.take (k + 1)) = restE (A.take k) ++ [e] from by rw [HTK.out, restE_other qc]); have HN2 := Lib.hid (show setE (A.take (k + 1)) = setE (A.take k) from by rw [HTK.out, setE_other qc]); have hal := bel_al2 wr (.cells #[.int .u8 k', .int .u64 ta, .int .u64 tb, .int .u64 tc, .int .u64 td, .slice al' ks'.length cap'] 39); have HO1 := HO.out.below hal; have HX1 := Lib.hid (HX.out.alloc (.cells #[.int .u8 k', .int .u64 ta, .int .u64 tb, .int .u64 tc, .int .u64 td, .slice al' ks'.length cap'] 39)); have HB1 := Lib.hid (hb2.trans (hal.mono hs2)); have HS := own_one (w := wr.alloc (.cells #[.int .u8 k', .int .u64 ta, .int .u64 tb, .int .u64 tc, .int .u64 td, .slice al' ks'.length cap'] 39)) (B := wr.heap.size) (g := wr.heap.size) (B' := W7.heap.size) (Nat.le_refl _) (blk_new wr _) HB1.out.size (HRE.out.below HB1.out); obtain ⟨_, ys, o1, vv1⟩ := HS; obtain ⟨_, xs, o0, vv0⟩ := HO1; obtain ⟨nR, hnR⟩ : ∃ n, n = (restE (A.take k)).length := ⟨_, rfl⟩; rw [← hnR] at o0 hlr; have O0 := Lib.hid o0; have O1 := Lib.hid o1; have V0 := Lib.hid vv0; have V1 := Lib.hid vv1; have HNR := Lib.hid hnR; have hbs : W7.heap.size + 1 ≤ (wr.alloc (.cells #[.int .u8 k', .int .u64 ta, .int .u64 tb, .int .u64 tc, .int .u64 td, .slice al' ks'.length cap'] 39)).heap.size := HX1.out.lt; clear o0 o1 vv0 vv1 hal hnR; go_wp2_with (at_builtin; refine wpList_append_owns rfl _ _ rfl (W7.heap.size + 1) _ nR xs rfl O0.out wr.heap.size _ 1 ys rfl O1.out V1.out.cells1 (by omega) hbs ?_); intro v' W' g1 g2; have hge := ownR_ge O0.out; have hO := own_append (l := restE (A.take k)) (m := [e]) (Nat.le_succ _) hbs HNR.out V0.out V1.out hge (by rw [List.length_map]; exact g1) g2; have hbb := HB1.out.grown g2 HB1.out.size (fun g h => Nat.le_of_succ_le (hge g h)); have hx2 : Box W' W7.heap.size (setE (A.take k)) := (g2.block W7.heap.size hbs (fun e => by have := hge _ e.symm; omega)).trans HX1.out; rw [← HN1.out] at hO; rw [← HN2.out] at hx2; have HO2 := Lib.hid hO; have HB2 := Lib.hid hbb; have HX2 := Lib.hid hx2; clear g1 g2 hge hO hbb hx2 c0 c1 c2 c3 c4 c5; go_wp2; exact ⟨⟨k + 1, by omega, by go_num, HO2.out, HX2.out, HB2.out⟩, by simp [intOf]; omega⟩
        · have he : A.take k = A := List.take_of_length_le (by omega); rw [he] at HO HX hlr; clear he; obtain ⟨wS, hwS⟩ : ∃ x, x = wr := ⟨_, rfl⟩; have HZw := Lib.hid ((hb2.block _ (Array.getElem?_eq_some_iff.1 HZ.out).1).trans HZ.out); have HBw := Lib.hid (HBW.out.trans (hb2.mono HBW.out.size))
          by_cases hsn : setE A = Ws.nil
          · have HG := Lib.hid (show gathE A = restE A from by unfold gathE; rw [if_pos hsn]); rw [HG.out] at HV; rw [hsn] at HX; obtain ⟨⟨d0, d1, d2, d3⟩, -⟩ := HX.out.all; simp only [Ws.nil] at d0 d1 d2 d3; rw [show (((0 : Nat) : Int)) = 0 from rfl] at d0 d1 d2 d3; have hq := eqW_yes Ws.nil; rw [nil_v] at hq; subst hwS; (have hkA : ¬ k < nA := by have := HNA.out; omega); obtain ⟨alS, capS, hv6, hcapS, hrowS⟩ := HO.out.row; subst hv6; (have hGl : ((restE A).map Ex.rx).length ≤ 1000000 := by rw [List.length_map]; exact (Nat.le_trans hlr (by decide))); have KS := Lib.hid (refSort_any Q wS.heap.size ((restE A).map Ex.rx) alS capS wS hGl (Nat.le_refl _) (hrowS.imp fun b hb h => ⟨Or.elim h (fun g => g.1) (fun g => HQB.out b (Nat.le_trans HBW.out.size (Nat.le_of_succ_le g))), hb⟩)); have HSL := Lib.hid (sortR_length ((restE A).map Ex.rx)); have HCA := Lib.hid (canE_map (restE A)); have HFO := Lib.hid (foldA_rx (canE (restE A))); generalize sortR ((restE A).map Ex.rx) = S1 at *; obtain ⟨nG, hnG⟩ : ∃ n, n = ((restE A).map Ex.rx).length := ⟨_, rfl⟩; rw [← hnG] at KS HSL hGl hcapS ⊢; (have hs1 : S1.length ≤ 1000000 := by rw [HSL.out]; exact hGl)
            have hS2 : (onceR S1).length ≤ 1000000 := by
              have := onceFrom_length S1 []; unfold onceR; simp at this; omega
            have HSO := Lib.hid hS2; clear hrowS hnG; go_wp2_with fail; refine KS.out.mono ?_; rintro x w1 ⟨al1, cp1, rfl, hcp1, hr1, hb1⟩; have KO := Lib.hid (refOnce_any Q w1.heap.size S1 al1 cp1 w1 hs1 (Nat.le_refl _) (hr1.imp fun b hb h => ⟨Or.elim h (fun g => g.1) (fun g => HQB.out b (Nat.le_trans HBw.out.size g)), hb⟩)); have HB1 := Lib.hid (HBw.out.trans (hb1.mono HBw.out.size)); have HZ1 := Lib.hid ((hb1.block _ (Array.getElem?_eq_some_iff.1 HZw.out).1).trans HZw.out); clear hr1 hb1; generalize onceR S1 = S2 at *; go_wp2_with fail; refine KO.out.mono ?_; rintro x w2 ⟨al2', cp2, rfl, hcp2, hr2, hb2'⟩; have KF := Lib.hid (refFold_any 5 1 (.inr ⟨rfl, rfl⟩) S2 Q al2' cp2 w2 (by have := HSO.out; omega) hcp2 (hr2.imp fun b _ h => Or.elim h (fun g => g.1) (fun g => HQB.out b (Nat.le_trans HB1.out.size g)))); rw [show (((5 : Nat) : Int)) = 5 from rfl] at KF; have HB2 := Lib.hid (HB1.out.trans (hb2'.mono HB1.out.size)); have HZ2 := Lib.hid ((hb2'.block _ (Array.getElem?_eq_some_iff.1 HZ1.out).1).trans HZ1.out); clear hr2 hb2'; go_wp2_with fail; refine KF.out.mono ?_; rintro x w3 ⟨v3, rfl, hv3, hb3⟩; obtain ⟨p0, p1, p2, p3, p4, pl, pn, pc, rfl⟩ := cells_re hv3; have HB3 := Lib.hid (HB2.out.trans (hb3.mono HB2.out.size)); have HZ3 := Lib.hid ((hb3.block _ (Array.getElem?_eq_some_iff.1 HZ2.out).1).trans HZ2.out)
            have HV3 := Lib.hid (show ReAt (okN (Lk P B) w.heap.size) w3 (.agg #[.int .u8 p0, .int .u64 p1, .int .u64 p2, .int .u64 p3, .int .u64 p4, .slice pl pn pc]) (foldA (canE (restE A))).rx from by
              rw [HFO.out, HCA.out]
              exact hv3.imp fun b _ h => by rw [← HQE.out]; exact Or.elim h id (fun g => HQB.out b (Nat.le_trans HB2.out.size g)))
            clear hv3 hb3; obtain ⟨f0, f1, f2, f3, f4, f5, g0, g1, g2, g3, g4, g5⟩ := cellsR HZ3.out; go_wp2; rw [HV.out]; exact ret_ex (e := foldA (canE (restE A))) HZ3.out HV3.out HB3.out (Nat.le_refl _) Tryz.results46 rfl rfl
          · have HG := Lib.hid (show gathE A = restE A ++ [.cls (setE A)] from by unfold gathE; rw [if_neg hsn]); rw [HG.out] at HV; have hsok := setE_ok hwA; have KO0 := Lib.hid fun W => refOfR_any (setE A) W hsok
            have hro : ofR (setE A) = (Ex.cls (setE A)).rx := by
              unfold ofR; rw [if_neg (fun h => hsn (sameW_iff.1 h))]
              rfl
            rw [hro] at KO0; have hq := eqW_no hsn; rw [nil_v] at hq; have HQ := Lib.hid hsn; clear hsn hro hsok HG; generalize setE A = Z at *; obtain ⟨z0, z1, z2, z3⟩ := Z; unfold Ws.v at KO0 hq; simp only at KO0 hq; obtain ⟨⟨d0, d1, d2, d3⟩, -⟩ := HX.out.all; simp only at d0 d1 d2 d3; subst hwS; (have hkA : ¬ k < nA := by have := HNA.out; omega); go_wp2_with fail; refine (KO0.out _).mono ?_; rintro x w9 ⟨v9, rfl, hv9, hb9⟩; obtain ⟨p0, p1, p2, p3, p4, pl, pn, pc, rfl⟩ := cells_re hv9; have hal9 := hb9.trans ((bel_al2 w9 (.cells #[.int .u8 p0, .int .u64 p1, .int .u64 p2, .int .u64 p3, .int .u64 p4, .slice pl pn pc] 39)).mono hb9.size); have HO9 := HO.out.below hal9; have HZ9 := Lib.hid ((hal9.block _ (Array.getElem?_eq_some_iff.1 HZw.out).1).trans HZw.out); have HB9 := Lib.hid (HBw.out.trans (hal9.mono HBw.out.size)); have HB7 := Lib.hid (hb2.trans (hal9.mono hb2.size)); have HS := own_one (w := w9.alloc (.cells #[.int .u8 p0, .int .u64 p1, .int .u64 p2, .int .u64 p3, .int .u64 p4, .slice pl pn pc] 39)) (B := w9.heap.size) (g := w9.heap.size) (B' := W7.heap.size) (P := Q) (e := .cls ⟨z0, z1, z2, z3⟩) (Nat.le_refl _) (blk_new w9 _) HB7.out.size (leaf_any _ hv9); obtain ⟨_, ys, o1, vv1⟩ := HS; obtain ⟨_, xs, o0, vv0⟩ := HO9; obtain ⟨nR, hnR⟩ : ∃ n, n = (restE A).length := ⟨_, rfl⟩; rw [← hnR] at o0 hlr; have O0 := Lib.hid o0; have O1 := Lib.hid o1; have V0 := Lib.hid vv0; have V1 := Lib.hid vv1; have HNR := Lib.hid hnR
            have hbs : W7.heap.size + 1 ≤ (w9.alloc (.cells #[.int .u8 p0, .int .u64 p1, .int .u64 p2, .int .u64 p3, .int .u64 p4, .slice pl pn pc] 39)).heap.size := by
              have h1 := HX.out.lt; have h2 := hal9.size; omega
            clear o0 o1 vv0 vv1 hal9 hnR hv9 hb9 d0 d1 d2 d3; go_wp2_with (at_builtin; refine wpList_append_owns rfl _ _ rfl (W7.heap.size + 1) _ nR xs rfl O0.out w9.heap.size _ 1 ys rfl O1.out V1.out.cells1 (by omega) hbs ?_); intro v' wS g1 g2; have hge := ownR_ge O0.out; have hO := own_append (l := restE A) (m := [.cls ⟨z0, z1, z2, z3⟩]) (Nat.le_succ _) hbs HNR.out V0.out V1.out hge (by rw [List.length_map]; exact g1) g2; have hbw7 := HBW.out.size; have hbb := HB9.out.grown g2 HB9.out.size (fun g h => by have := hge g h; omega); have hzz := (g2.block w.heap.size (Nat.lt_of_lt_of_le (Array.getElem?_eq_some_iff.1 HZ9.out).1 (Nat.le_refl _)) (fun e => by have := hge _ e.symm; omega)).trans HZ9.out; have HO2 := Lib.hid hO; have HBS := Lib.hid hbb; have HZS := Lib.hid hzz; (have hll : (restE A ++ [Ex.cls ⟨z0, z1, z2, z3⟩]).length ≤ 1000000 := by rw [List.length_append, ← HNR.out]; simp; omega); clear g1 g2 hge hO hbb hzz; generalize restE A ++ [Ex.cls ⟨z0, z1, z2, z3⟩] = G at *; obtain ⟨alS, capS, hv6, hcapS, hrowS⟩ := HO2.out.row; subst hv6; (have hGl : (G.map Ex.rx).length ≤ 1000000 := by rw [List.length_map]; exact hll); have KS := Lib.hid (refSort_any Q wS.heap.size (G.map Ex.rx) alS capS wS hGl (Nat.le_refl _) (hrowS.imp fun b hb h => ⟨Or.elim h (fun g => g.1) (fun g => HQB.out b (Nat.le_trans HBW.out.size (Nat.le_of_succ_le g))), hb⟩)); have HSL := Lib.hid (sortR_length (G.map Ex.rx)); have HCA := Lib.hid (canE_map G); have HFO := Lib.hid (foldA_rx (canE G)); generalize sortR (G.map Ex.rx) = S1 at *; obtain ⟨nG, hnG⟩ : ∃ n, n = (G.map Ex.rx).length := ⟨_, rfl⟩; rw [← hnG] at KS HSL hGl hcapS ⊢; (have hs1 : S1.length ≤ 1000000 := by rw [HSL.out]; exact hGl)
            have hS2 : (onceR S1).length ≤ 1000000 := by
              have := onceFrom_length S1 []; unfold onceR; simp at this; omega
            have HSO := Lib.hid hS2; clear hrowS hnG; go_wp2_with fail; refine KS.out.mono ?_; rintro x w1 ⟨al1, cp1, rfl, hcp1, hr1, hb1⟩; have KO := Lib.hid (refOnce_any Q w1.heap.size S1 al1 cp1 w1 hs1 (Nat.le_refl _) (hr1.imp fun b hb h => ⟨Or.elim h (fun g => g.1) (fun g => HQB.out b (Nat.le_trans HBS.out.size g)), hb⟩)); have HB1 := Lib.hid (HBS.out.trans (hb1.mono HBS.out.size)); have HZ1 := Lib.hid ((hb1.block _ (Array.getElem?_eq_some_iff.1 HZS.out).1).trans HZS.out); clear hr1 hb1; generalize onceR S1 = S2 at *; go_wp2_with fail; refine KO.out.mono ?_; rintro x w2 ⟨al2', cp2, rfl, hcp2, hr2, hb2'⟩; have KF := Lib.hid (refFold_any 5 1 (.inr ⟨rfl, rfl⟩) S2 Q al2' cp2 w2 (by have := HSO.out; omega) hcp2 (hr2.imp fun b _ h => Or.elim h (fun g => g.1) (fun g => HQB.out b (Nat.le_trans HB1.out.size g)))); rw [show (((5 : Nat) : Int)) = 5 from rfl] at KF; have HB2 := Lib.hid (HB1.out.trans (hb2'.mono HB1.out.size)); have HZ2 := Lib.hid ((hb2'.block _ (Array.getElem?_eq_some_iff.1 HZ1.out).1).trans HZ1.out); clear hr2 hb2'; go_wp2_with fail; refine KF.out.mono ?_; rintro x w3 ⟨v3, rfl, hv3, hb3⟩; obtain ⟨p0, p1, p2, p3, p4, pl, pn, pc, rfl⟩ := cells_re hv3; have HB3 := Lib.hid (HB2.out.trans (hb3.mono HB2.out.size)); have HZ3 := Lib.hid ((hb3.block _ (Array.getElem?_eq_some_iff.1 HZ2.out).1).trans HZ2.out)
            have HV3 := Lib.hid (show ReAt (okN (Lk P B) w.heap.size) w3 (.agg #[.int .u8 p0, .int .u64 p1, .int .u64 p2, .int .u64 p3, .int .u64 p4, .slice pl pn pc]) (foldA (canE G)).rx from by
              rw [HFO.out, HCA.out]
              exact hv3.imp fun b _ h => by rw [← HQE.out]; exact Or.elim h id (fun g => HQB.out b (Nat.le_trans HB2.out.size g)))
            clear hv3 hb3; obtain ⟨f0, f1, f2, f3, f4, f5, g0, g1, g2, g3, g4, g5⟩ := cellsR HZ3.out; go_wp2; rw [HV.out]; exact ret_ex (e := foldA (canE G)) HZ3.out HV3.out HB3.out (Nat.le_refl _) Tryz.results46 rfl rfl
end Go.Proofs.YthgghaaddankoaaGreatDoor.Kx
/- Lemmas of mine. -/
namespace Go.Proofs.YthgghaaddankoaaGreatDoor.Kx
open Go.RowKit
theorem okN_le {ok : Nat → Prop} {n m : Nat} (h : n ≤ m) (b : Nat) (hb : okN ok m b) : okN ok n b := Or.elim hb .inl (fun g => .inr (Nat.le_trans h g))
def SP.two (ok : Nat → Prop) (a b : Ex) : SP := ⟨fun x w => ∃ g, x = .slice (some ⟨g, 0, none⟩) 2 2 ∧ RowAt ok w (some ⟨g, 0, none⟩) [a.rx, b.rx], fun _ _ _ ⟨g, h1, h2⟩ hb => ⟨g, h1, h2.below hb⟩⟩
set_option maxHeartbeats 8000000 in
set_option maxRecDepth 100000 in
theorem ref8of (N : Nat) : ∀ (e : Ex), e.size ≤ N → e.Wf → e.size ≤ 800000 → ∀ (ok : Nat → Prop) (v : Value) (w : World), ReAt ok w v e.rx →
    Calls Tryz.prog 30 #[v] w (ExPost ok (nfE e) w) := by
  induction N with
  | zero => intro e hN; have := e.size_pos; omega
  | succ N ih =>
    intro e hN we hbig ok v w h; obtain ⟨ka, ⟨sa, sb, sc, sd⟩, ksa, hsa⟩ := rx_form e; have HA := Lib.hid h; rw [hsa] at h; obtain ⟨_, _, al, cap, rfl, hcap, _, hrow⟩ := h; simp only at HA ⊢; have k4 := kind_seq hsa; have k5 := kind_alt hsa; have k6 := kind_star hsa
    cases e with
    | empty =>
      simp only [Ex.isSeq, Ex.isAlt, Ex.isStar] at k4 k5 k6; clear hrow ih hN hbig hsa we; go_enter Tryz.func30, Tryz.ntmps30; go_wp2; exact ret_re (blk_at _ _ (by simp)) Tryz.results30 rfl rfl ⟨_, rfl, (HA.out.below (al2 w _ _)).imp fun _ _ h => Or.inl h, al2 w _ _⟩
    | eps =>
      simp only [Ex.isSeq, Ex.isAlt, Ex.isStar] at k4 k5 k6; clear hrow ih hN hbig hsa we; go_enter Tryz.func30, Tryz.ntmps30; go_wp2; exact ret_re (blk_at _ _ (by simp)) Tryz.results30 rfl rfl ⟨_, rfl, (HA.out.below (al2 w _ _)).imp fun _ _ h => Or.inl h, al2 w _ _⟩
    | cls s =>
      simp only [Ex.isSeq, Ex.isAlt, Ex.isStar] at k4 k5 k6; clear hrow ih hN hbig hsa we; go_enter Tryz.func30, Tryz.ntmps30; go_wp2; exact ret_re (blk_at _ _ (by simp)) Tryz.results30 rfl rfl ⟨_, rfl, (HA.out.below (al2 w _ _)).imp fun _ _ h => Or.inl h, al2 w _ _⟩
    | star c =>
      show Calls _ _ _ w (ExPost ok (starE (nfE c)) w); simp only [Ex.rx] at hsa; injection hsa with e1 e2 e3; subst e1; subst e3; obtain ⟨bk, off, rfl, hlt, hn0⟩ := hrow.kid (i := 0) (by simp); simp only [List.getElem_cons_zero, Nat.zero_mul, Nat.add_zero] at hn0; (have hcap1 : 1 ≤ cap := by simpa using hcap); obtain ⟨kc, ⟨ca, cb, cc, cd⟩, ksc, hsc⟩ := rx_form c; rw [hsc] at hn0; simp only [Ex.size] at hN hbig; have IC := Lib.hid (fun v W h => ih c (by omega) we (by omega) ok v W h); have KS := Lib.hid fun x v (h : ReAt (okN ok w.heap.size) x v (nfE c).rx) => ref8star (nfE c) (okN ok w.heap.size) v x h; have HN0 := Lib.hid hn0; have hlen : [c.rx].length = 1 := rfl; rw [hlen, show (((6 : Nat) : Int)) = 6 from rfl]; have B := Lib.hid (Bn1.new w (.cells #[.int .u8 6, .int .u64 sa, .int .u64 sb, .int .u64 sc, .int .u64 sd, .slice (some ⟨bk, off, none⟩) 1 cap] 39)); obtain ⟨al0, cap0, ⟨i0, i1, i2, i3, i4, i5⟩, hrc⟩ := (NodeAt.below B.out.2.2 _ hlt hn0).read; simp only at i0 i1 i2 i3 i4 i5; rw [← hsc] at hrc; have K1 := Lib.hid (IC.out _ _ hrc); clear k4 k5 k6 hlen hrow ih hN hsc HA hn0 hrc hcap e2 IC HN0; go_enter Tryz.func30, Tryz.ntmps30; go_wp2_with fail; refine K1.out.mono ?_; rintro x w1 ⟨v1, rfl, hv1, hb1⟩; obtain ⟨p0, p1, p2, p3, p4, pl, pn, pc, rfl⟩ := cells_re hv1; have B1 := Lib.hid (B.out.go hb1); have K2 := Lib.hid (KS.out w1 _ (hv1.imp fun b _ h => okN_le B.out.2.2.size b h)); clear hv1 hb1 i0 i1 i2 i3 i4 i5 B K1; go_wp2_with fail; refine K2.out.mono ?_; rintro x w2 ⟨v2, rfl, hv2, hb2⟩; obtain ⟨q0, q1, q2, q3, q4, ql, qn, qc, rfl⟩ := cells_re hv2; have B2 := Lib.hid (B1.out.go hb2); have HV := Lib.hid (show ReAt (okN ok w.heap.size) w2 (.agg #[.int .u8 q0, .int .u64 q1, .int .u64 q2, .int .u64 q3, .int .u64 q4, .slice ql qn qc]) (starE (nfE c)).rx from hv2.imp (okN_in B1.out.2.2.size)); clear hv2 hb2 B1; obtain ⟨c0, c1, c2, c3, c4, c5, f0, f1, f2, f3, f4, f5⟩ := cellsR B2.out.2.1; go_wp2; exact ret_ex (e := starE (nfE c)) B2.out.2.1 HV.out B2.out.2.2 (by omega) Tryz.results30 rfl rfl
    | seq c d =>
      show Calls _ _ _ w (ExPost ok (seqE (nfE c) (nfE d)) w); simp only [Ex.rx] at hsa; injection hsa with e1 e2 e3; subst e1; subst e3; obtain ⟨bk, off, rfl, hlt, hn0⟩ := hrow.kid (i := 0) (by simp); simp only [List.getElem_cons_zero, Nat.zero_mul, Nat.add_zero] at hn0; obtain ⟨bk', off', e', hlt', hn1⟩ := hrow.kid (i := 1) (by simp); simp at e'; obtain ⟨rfl, rfl⟩ := e'; simp only [List.getElem_cons_zero, List.getElem_cons_succ, Nat.one_mul] at hn1; (have hcap2 : 2 ≤ cap := by simpa using hcap); obtain ⟨kc, ⟨ca, cb, cc, cd⟩, ksc, hsc⟩ := rx_form c; obtain ⟨kd, ⟨da, db, dc, dd⟩, ksd, hsd⟩ := rx_form d; rw [hsc] at hn0; rw [hsd] at hn1; obtain ⟨al0, cap0, ⟨i0, i1, i2, i3, i4, i5⟩, hrc⟩ := hn0.read; obtain ⟨al1, cap1, ⟨j0, j1, j2, j3, j4, j5⟩, hrd⟩ := hn1.read; simp only at i0 i1 i2 i3 i4 i5 j0 j1 j2 j3 j4 j5; rw [← hsc] at hrc; rw [← hsd] at hrd; simp only [Ex.size] at hN hbig; have zc := nf_size c; have zd := nf_size d; have KC0 := Lib.hid fun W (hb : Below w.heap.size w W) => ih c (by omega) we.1 (by omega) ok _ W (hrc.below hb); have KD0 := Lib.hid fun W (hb : Below w.heap.size w W) => ih d (by omega) we.2 (by omega) ok _ W (hrd.below hb); have KS := Lib.hid fun x v u (h : ReAt (okN ok w.heap.size) x v (nfE c).rx) (h' : ReAt (okN ok w.heap.size) x u (nfE d).rx) => ref8seq (nfE c).size (nfE c) (Nat.le_refl _) (okN ok w.heap.size) (nfE d) v u x h h'; have I6 := Lib.hid (show w.cell? ⟨bk, off, none⟩ = some (.int .u8 kc) ∧ w.cell? ⟨bk, off + 1, none⟩ = some (.int .u64 ca) ∧ w.cell? ⟨bk, off + 2, none⟩ = some (.int .u64 cb) ∧ w.cell? ⟨bk, off + 3, none⟩ = some (.int .u64 cc) ∧ w.cell? ⟨bk, off + 4, none⟩ = some (.int .u64 cd) ∧ w.cell? ⟨bk, off + 5, none⟩ = some (.slice al0 ksc.length cap0) from ⟨i0, i1, i2, i3, i4, i5⟩); have J6 := Lib.hid (show w.cell? ⟨bk, off + 6, none⟩ = some (.int .u8 kd) ∧ w.cell? ⟨bk, off + 6 + 1, none⟩ = some (.int .u64 da) ∧ w.cell? ⟨bk, off + 6 + 2, none⟩ = some (.int .u64 db) ∧ w.cell? ⟨bk, off + 6 + 3, none⟩ = some (.int .u64 dc) ∧ w.cell? ⟨bk, off + 6 + 4, none⟩ = some (.int .u64 dd) ∧ w.cell? ⟨bk, off + 6 + 5, none⟩ = some (.slice al1 ksd.length cap1) from ⟨j0, j1, j2, j3, j4, j5⟩); have hlen : [c.rx, d.rx].length = 2 := rfl; rw [hlen, show (((4 : Nat) : Int)) = 4 from rfl]; clear k4 k5 k6 hlen i0 i1 i2 i3 i4 i5 j0 j1 j2 j3 j4 j5 hrow ih hN hsc hsd HA hn0 hn1 hrc hrd hcap e2; have B := Lib.hid (Bn1.new w (.cells #[.int .u8 4, .int .u64 sa, .int .u64 sb, .int .u64 sc, .int .u64 sd, .slice (some ⟨bk, off, none⟩) 2 cap] 39)); go_enter Tryz.func30, Tryz.ntmps30; go_wp2_with fail; obtain ⟨W, hW⟩ : ∃ x, x = (w.alloc (.cells #[.int .u8 4, .int .u64 sa, .int .u64 sb, .int .u64 sc, .int .u64 sd, .slice (some ⟨bk, off, none⟩) 2 cap] 39)).alloc (.cells #[.int .u8 0, .int .u64 0, .int .u64 0, .int .u64 0, .int .u64 0, .slice none 0 0] 39) := ⟨_, rfl⟩; rw [← hW] at B ⊢; clear hW; have CX := Lib.hid fun x (hx : Below W.heap.size W x) => (cellsR (B.out.go hx).1).2.2.2.2.2.1; have CC := Lib.hid fun x (hx : Below W.heap.size W x) => six_keep hlt I6.out (B.out.go hx).2.2; have CD := Lib.hid fun x (hx : Below W.heap.size W x) => six_keep hlt J6.out (B.out.go hx).2.2; have KC := Lib.hid fun x (hx : Below W.heap.size W x) => KC0.out x (B.out.go hx).2.2; have KD := Lib.hid fun x (hx : Below W.heap.size W x) => KD0.out x (B.out.go hx).2.2; refine wp_region_orderT 11 (fun i => ([SP.eq (.pointer (some ⟨w.heap.size, 5, none⟩)), SP.eq (.slice (some ⟨bk, off, none⟩) 2 cap), SP.eq (.pointer (some ⟨bk, off, none⟩)), SP.eq (.agg #[.int .u8 kc, .int .u64 ca, .int .u64 cb, .int .u64 cc, .int .u64 cd, .slice al0 ksc.length cap0]), SP.ex (okN ok w.heap.size) (nfE c), SP.eq (.pointer (some ⟨w.heap.size, 5, none⟩)), SP.eq (.slice (some ⟨bk, off, none⟩) 2 cap), SP.eq (.pointer (some ⟨bk, off + 6, none⟩)), SP.eq (.agg #[.int .u8 kd, .int .u64 da, .int .u64 db, .int .u64 dc, .int .u64 dd, .slice al1 ksd.length cap1]), SP.ex (okN ok w.heap.size) (nfE d), SP.ex (okN ok w.heap.size) (seqE (nfE c) (nfE d))] : List SP).getD i SP.free) (fun _ => false) (fun _ _ _ h => by cases h) (by kernel_rfl) (by kernel_rfl) ⟨?_, ?_, ?_, ?_, ?_, ?_, ?_, ?_, ?_, ?_, ?_, trivial⟩ ?_
      · intro a x K out get hb hK; rw [if_pos (wanted_none rfl)]; have o1 : a.tmps[1]? = some (.pointer (some ⟨w.heap.size, 0, none⟩)) := out 1 (by kernel_rfl); clear out get; go_simp; exact hK _ _ rfl (Below.refl _ _) (fun h => by cases h)
      · intro a x K out get hb hK; rw [if_pos (wanted_none rfl)]; obtain ⟨y6, hy6, rfl⟩ := get 0 _ _ rfl rfl (by kernel_rfl); clear out get; have hk5 := CX.out x hb; go_simp; exact hK _ _ rfl (Below.refl _ _) (fun h => by cases h)
      · intro a x K out get hb hK; rw [if_pos (wanted_none rfl)]; obtain ⟨y7, hy7, rfl⟩ := get 1 _ _ rfl rfl (by kernel_rfl); clear out get; go_simp; exact hK _ _ rfl (Below.refl _ _) (fun h => by cases h)
      · intro a x K out get hb hK; rw [if_pos (wanted_none rfl)]; obtain ⟨y8, hy8, rfl⟩ := get 2 _ _ rfl rfl (by kernel_rfl); clear out get; obtain ⟨c0, c1, c2, c3, c4, c5⟩ := CC.out x hb; go_simp; exact hK _ _ rfl (Below.refl _ _) (fun h => by cases h)
      · intro a x K out get hb hK; rw [if_pos (wanted_none rfl)]; obtain ⟨y9, hy9, rfl⟩ := get 3 _ _ rfl rfl (by kernel_rfl); clear out get; go_simp; refine (KC.out x hb).mono ?_; rintro e w2 ⟨v2, rfl, hv2, hb2⟩; exact hK _ _ (ExV.of hv2 fun b _ h => okN_le (B.out.go hb).2.2.size b h) hb2 (fun h => by cases h)
      · intro a x K out get hb hK; rw [if_pos (wanted_none rfl)]; have o1 : a.tmps[1]? = some (.pointer (some ⟨w.heap.size, 0, none⟩)) := out 1 (by kernel_rfl); clear out get; go_simp; exact hK _ _ rfl (Below.refl _ _) (fun h => by cases h)
      · intro a x K out get hb hK; rw [if_pos (wanted_none rfl)]; obtain ⟨y11, hy11, rfl⟩ := get 5 _ _ rfl rfl (by kernel_rfl); clear out get; have hk5 := CX.out x hb; go_simp; exact hK _ _ rfl (Below.refl _ _) (fun h => by cases h)
      · intro a x K out get hb hK; rw [if_pos (wanted_none rfl)]; obtain ⟨y12, hy12, rfl⟩ := get 6 _ _ rfl rfl (by kernel_rfl); clear out get; go_simp; exact hK _ _ rfl (Below.refl _ _) (fun h => by cases h)
      · intro a x K out get hb hK; rw [if_pos (wanted_none rfl)]; obtain ⟨y13, hy13, rfl⟩ := get 7 _ _ rfl rfl (by kernel_rfl); clear out get; obtain ⟨c0, c1, c2, c3, c4, c5⟩ := CD.out x hb; go_simp; exact hK _ _ rfl (Below.refl _ _) (fun h => by cases h)
      · intro a x K out get hb hK; rw [if_pos (wanted_none rfl)]; obtain ⟨y14, hy14, rfl⟩ := get 8 _ _ rfl rfl (by kernel_rfl); clear out get; go_simp; refine (KD.out x hb).mono ?_; rintro e w2 ⟨v2, rfl, hv2, hb2⟩; exact hK _ _ (ExV.of hv2 fun b _ h => okN_le (B.out.go hb).2.2.size b h) hb2 (fun h => by cases h)
      · intro a x K out get hb hK; rw [if_pos (wanted_none rfl)]; obtain ⟨y10, hy10, ⟨p0, p1, p2, p3, p4, pl, pn, pc, rfl, hr10⟩⟩ := get 4 _ _ rfl rfl (by kernel_rfl); obtain ⟨y15, hy15, ⟨q0, q1, q2, q3, q4, ql, qn, qc, rfl, hr15⟩⟩ := get 9 _ _ rfl rfl (by kernel_rfl); clear out get; go_simp; refine (KS.out x _ _ hr10 hr15).mono ?_; rintro e w2 ⟨v2, rfl, hv2, hb2⟩; exact hK _ _ (ExV.of hv2 (okN_in (B.out.go hb).2.2.size)) hb2 (fun h => by cases h)
      refine ao_finT (isD := fun s => decide (6 ≤ s) && decide (s ≤ 16)) (by kernel_rfl) ?_; intro f x hv hne hb; clear hne; obtain ⟨p0, p1, p2, p3, p4, pl, pn, pc, eL, rL⟩ := hv 10 _ _ (by decide) rfl rfl; have B2 := Lib.hid (B.out.go hb); have HV := Lib.hid (show ReAt (okN ok w.heap.size) x (.agg #[.int .u8 p0, .int .u64 p1, .int .u64 p2, .int .u64 p3, .int .u64 p4, .slice pl pn pc]) (seqE (nfE c) (nfE d)).rx from rL); obtain ⟨c0, c1, c2, c3, c4, c5, f0, f1, f2, f3, f4, f5⟩ := cellsR B2.out.2.1; clear hv hb rL; simp only [frm, List.drop_succ_cons, List.drop_zero]; simp; rw [eL]; generalize f 6 = u6 at *; generalize f 7 = u7 at *; generalize f 8 = u8 at *; generalize f 9 = u9 at *; generalize f 10 = u10 at *; generalize f 11 = u11 at *; generalize f 12 = u12 at *; generalize f 13 = u13 at *; generalize f 14 = u14 at *; generalize f 15 = u15 at *; clear eL f; go_wp2; exact ret_ex (e := seqE (nfE c) (nfE d)) B2.out.2.1 HV.out B2.out.2.2 (by omega) Tryz.results30 rfl rfl
    | alt c d =>
      show Calls _ _ _ w (ExPost ok (altE [nfE c, nfE d]) w); simp only [Ex.rx] at hsa; injection hsa with e1 e2 e3; subst e1; subst e3; obtain ⟨bk, off, rfl, hlt, hn0⟩ := hrow.kid (i := 0) (by simp); simp only [List.getElem_cons_zero, Nat.zero_mul, Nat.add_zero] at hn0; obtain ⟨bk', off', e', hlt', hn1⟩ := hrow.kid (i := 1) (by simp); simp at e'; obtain ⟨rfl, rfl⟩ := e'; simp only [List.getElem_cons_zero, List.getElem_cons_succ, Nat.one_mul] at hn1; (have hcap2 : 2 ≤ cap := by simpa using hcap); obtain ⟨kc, ⟨ca, cb, cc, cd⟩, ksc, hsc⟩ := rx_form c; obtain ⟨kd, ⟨da, db, dc, dd⟩, ksd, hsd⟩ := rx_form d; rw [hsc] at hn0; rw [hsd] at hn1; obtain ⟨al0, cap0, ⟨i0, i1, i2, i3, i4, i5⟩, hrc⟩ := hn0.read; obtain ⟨al1, cap1, ⟨j0, j1, j2, j3, j4, j5⟩, hrd⟩ := hn1.read; simp only at i0 i1 i2 i3 i4 i5 j0 j1 j2 j3 j4 j5; rw [← hsc] at hrc; rw [← hsd] at hrd; simp only [Ex.size] at hN hbig; have zc := nf_size c; have zd := nf_size d; have KC0 := Lib.hid fun W (hb : Below w.heap.size w W) => ih c (by omega) we.1 (by omega) ok _ W (hrc.below hb); have KD0 := Lib.hid fun W (hb : Below w.heap.size w W) => ih d (by omega) we.2 (by omega) ok _ W (hrd.below hb)
      have wcd : Ex.Wfs [nfE c, nfE d] := fun z hz => by
        simp at hz
        rcases hz with rfl | rfl
        · exact nf_wf c we.1
        · exact nf_wf d we.2
      have KT := Lib.hid fun x (_ : Below (w.heap.size + 1 + 1) x x ∨ True) (g : Nat) (h : RowAt (okN ok w.heap.size) x (some ⟨g, 0, none⟩) [(nfE c).rx, (nfE d).rx]) => ref8alt (okN ok w.heap.size) x.heap.size [nfE c, nfE d] (some ⟨g, 0, none⟩) 2 x (Nat.le_refl _) (h.imp fun b hb g => ⟨g, hb⟩) wcd (by simp [sizeL]; omega) (by simp); rw [show [nfE c, nfE d].length = 2 from rfl] at KT; replace KT := Lib.hid fun x (_ : True) g h => KT.out x (.inr trivial) g h; clear wcd; have I6 := Lib.hid (show w.cell? ⟨bk, off, none⟩ = some (.int .u8 kc) ∧ w.cell? ⟨bk, off + 1, none⟩ = some (.int .u64 ca) ∧ w.cell? ⟨bk, off + 2, none⟩ = some (.int .u64 cb) ∧ w.cell? ⟨bk, off + 3, none⟩ = some (.int .u64 cc) ∧ w.cell? ⟨bk, off + 4, none⟩ = some (.int .u64 cd) ∧ w.cell? ⟨bk, off + 5, none⟩ = some (.slice al0 ksc.length cap0) from ⟨i0, i1, i2, i3, i4, i5⟩); have J6 := Lib.hid (show w.cell? ⟨bk, off + 6, none⟩ = some (.int .u8 kd) ∧ w.cell? ⟨bk, off + 6 + 1, none⟩ = some (.int .u64 da) ∧ w.cell? ⟨bk, off + 6 + 2, none⟩ = some (.int .u64 db) ∧ w.cell? ⟨bk, off + 6 + 3, none⟩ = some (.int .u64 dc) ∧ w.cell? ⟨bk, off + 6 + 4, none⟩ = some (.int .u64 dd) ∧ w.cell? ⟨bk, off + 6 + 5, none⟩ = some (.slice al1 ksd.length cap1) from ⟨j0, j1, j2, j3, j4, j5⟩); have hlen : [c.rx, d.rx].length = 2 := rfl; rw [hlen, show (((5 : Nat) : Int)) = 5 from rfl]; clear k4 k5 k6 hlen i0 i1 i2 i3 i4 i5 j0 j1 j2 j3 j4 j5 hrow ih hN hsc hsd HA hn0 hn1 hrc hrd hcap e2; have B := Lib.hid (Bn1.new w (.cells #[.int .u8 5, .int .u64 sa, .int .u64 sb, .int .u64 sc, .int .u64 sd, .slice (some ⟨bk, off, none⟩) 2 cap] 39)); go_enter Tryz.func30, Tryz.ntmps30; go_wp2_with fail; obtain ⟨W, hW⟩ : ∃ x, x = (w.alloc (.cells #[.int .u8 5, .int .u64 sa, .int .u64 sb, .int .u64 sc, .int .u64 sd, .slice (some ⟨bk, off, none⟩) 2 cap] 39)).alloc (.cells #[.int .u8 0, .int .u64 0, .int .u64 0, .int .u64 0, .int .u64 0, .slice none 0 0] 39) := ⟨_, rfl⟩; rw [← hW] at B ⊢; clear hW; have CX := Lib.hid fun x (hx : Below W.heap.size W x) => (cellsR (B.out.go hx).1).2.2.2.2.2.1; have CC := Lib.hid fun x (hx : Below W.heap.size W x) => six_keep hlt I6.out (B.out.go hx).2.2; have CD := Lib.hid fun x (hx : Below W.heap.size W x) => six_keep hlt J6.out (B.out.go hx).2.2; have KC := Lib.hid fun x (hx : Below W.heap.size W x) => KC0.out x (B.out.go hx).2.2; have KD := Lib.hid fun x (hx : Below W.heap.size W x) => KD0.out x (B.out.go hx).2.2; refine wp_region_orderT 12 (fun i => ([SP.eq (.pointer (some ⟨w.heap.size, 5, none⟩)), SP.eq (.slice (some ⟨bk, off, none⟩) 2 cap), SP.eq (.pointer (some ⟨bk, off, none⟩)), SP.eq (.agg #[.int .u8 kc, .int .u64 ca, .int .u64 cb, .int .u64 cc, .int .u64 cd, .slice al0 ksc.length cap0]), SP.ex (okN ok w.heap.size) (nfE c), SP.eq (.pointer (some ⟨w.heap.size, 5, none⟩)), SP.eq (.slice (some ⟨bk, off, none⟩) 2 cap), SP.eq (.pointer (some ⟨bk, off + 6, none⟩)), SP.eq (.agg #[.int .u8 kd, .int .u64 da, .int .u64 db, .int .u64 dc, .int .u64 dd, .slice al1 ksd.length cap1]), SP.ex (okN ok w.heap.size) (nfE d), SP.two (okN ok w.heap.size) (nfE c) (nfE d), SP.ex (okN ok w.heap.size) (altE [nfE c, nfE d])] : List SP).getD i SP.free) (fun _ => false) (fun _ _ _ h => by cases h) (by kernel_rfl) (by kernel_rfl) ⟨?_, ?_, ?_, ?_, ?_, ?_, ?_, ?_, ?_, ?_, ?_, ?_, trivial⟩ ?_
      · intro a x K out get hb hK; rw [if_pos (wanted_none rfl)]; have o1 : a.tmps[1]? = some (.pointer (some ⟨w.heap.size, 0, none⟩)) := out 1 (by kernel_rfl); clear out get; go_simp; exact hK _ _ rfl (Below.refl _ _) (fun h => by cases h)
      · intro a x K out get hb hK; rw [if_pos (wanted_none rfl)]; obtain ⟨y20, hy20, rfl⟩ := get 0 _ _ rfl rfl (by kernel_rfl); clear out get; have hk5 := CX.out x hb; go_simp; exact hK _ _ rfl (Below.refl _ _) (fun h => by cases h)
      · intro a x K out get hb hK; rw [if_pos (wanted_none rfl)]; obtain ⟨y21, hy21, rfl⟩ := get 1 _ _ rfl rfl (by kernel_rfl); clear out get; go_simp; exact hK _ _ rfl (Below.refl _ _) (fun h => by cases h)
      · intro a x K out get hb hK; rw [if_pos (wanted_none rfl)]; obtain ⟨y22, hy22, rfl⟩ := get 2 _ _ rfl rfl (by kernel_rfl); clear out get; obtain ⟨c0, c1, c2, c3, c4, c5⟩ := CC.out x hb; go_simp; exact hK _ _ rfl (Below.refl _ _) (fun h => by cases h)
      · intro a x K out get hb hK; rw [if_pos (wanted_none rfl)]; obtain ⟨y23, hy23, rfl⟩ := get 3 _ _ rfl rfl (by kernel_rfl); clear out get; go_simp; refine (KC.out x hb).mono ?_; rintro e w2 ⟨v2, rfl, hv2, hb2⟩; exact hK _ _ (ExV.of hv2 fun b _ h => okN_le (B.out.go hb).2.2.size b h) hb2 (fun h => by cases h)
      · intro a x K out get hb hK; rw [if_pos (wanted_none rfl)]; have o1 : a.tmps[1]? = some (.pointer (some ⟨w.heap.size, 0, none⟩)) := out 1 (by kernel_rfl); clear out get; go_simp; exact hK _ _ rfl (Below.refl _ _) (fun h => by cases h)
      · intro a x K out get hb hK; rw [if_pos (wanted_none rfl)]; obtain ⟨y25, hy25, rfl⟩ := get 5 _ _ rfl rfl (by kernel_rfl); clear out get; have hk5 := CX.out x hb; go_simp; exact hK _ _ rfl (Below.refl _ _) (fun h => by cases h)
      · intro a x K out get hb hK; rw [if_pos (wanted_none rfl)]; obtain ⟨y26, hy26, rfl⟩ := get 6 _ _ rfl rfl (by kernel_rfl); clear out get; go_simp; exact hK _ _ rfl (Below.refl _ _) (fun h => by cases h)
      · intro a x K out get hb hK; rw [if_pos (wanted_none rfl)]; obtain ⟨y27, hy27, rfl⟩ := get 7 _ _ rfl rfl (by kernel_rfl); clear out get; obtain ⟨c0, c1, c2, c3, c4, c5⟩ := CD.out x hb; go_simp; exact hK _ _ rfl (Below.refl _ _) (fun h => by cases h)
      · intro a x K out get hb hK; rw [if_pos (wanted_none rfl)]; obtain ⟨y28, hy28, rfl⟩ := get 8 _ _ rfl rfl (by kernel_rfl); clear out get; go_simp; refine (KD.out x hb).mono ?_; rintro e w2 ⟨v2, rfl, hv2, hb2⟩; exact hK _ _ (ExV.of hv2 fun b _ h => okN_le (B.out.go hb).2.2.size b h) hb2 (fun h => by cases h)
      · intro a x K out get hb hK; rw [if_pos (wanted_none rfl)]; obtain ⟨y24, hy24, ⟨p0, p1, p2, p3, p4, pl, pn, pc, rfl, hr24⟩⟩ := get 4 _ _ rfl rfl (by kernel_rfl); obtain ⟨y29, hy29, ⟨q0, q1, q2, q3, q4, ql, qn, qc, rfl, hr29⟩⟩ := get 9 _ _ rfl rfl (by kernel_rfl); clear out get; go_simp; exact hK _ _ ⟨_, rfl, row_two (blk_new x _) (.inr (B.out.go hb).2.2.size) ((hr24.below (bel_al2 x _))) ((hr29.below (bel_al2 x _)))⟩ (bel_al2 _ _) (fun h => by cases h)
      · intro a x K out get hb hK; rw [if_pos (wanted_none rfl)]; obtain ⟨y30, hy30, ⟨g30, rfl, hrow30⟩⟩ := get 10 _ _ rfl rfl (by kernel_rfl); clear out get; go_simp; refine (KT.out x trivial _ hrow30).mono ?_; rintro e w2 ⟨v2, rfl, hv2, hb2⟩; exact hK _ _ (ExV.of hv2 fun b _ h => Or.elim h (fun g => g.1) (fun g => .inr (Nat.le_trans (B.out.go hb).2.2.size g))) hb2 (fun h => by cases h)
      refine ao_finT (isD := fun s => decide (20 ≤ s) && decide (s ≤ 31)) (by kernel_rfl) ?_; intro f x hv hne hb; clear hne; obtain ⟨p0, p1, p2, p3, p4, pl, pn, pc, eL, rL⟩ := hv 11 _ _ (by decide) rfl rfl; have B2 := Lib.hid (B.out.go hb); have HV := Lib.hid (show ReAt (okN ok w.heap.size) x (.agg #[.int .u8 p0, .int .u64 p1, .int .u64 p2, .int .u64 p3, .int .u64 p4, .slice pl pn pc]) (altE [nfE c, nfE d]).rx from rL); obtain ⟨c0, c1, c2, c3, c4, c5, f0, f1, f2, f3, f4, f5⟩ := cellsR B2.out.2.1; clear hv hb rL; simp only [frm, List.drop_succ_cons, List.drop_zero]; simp; rw [eL]; generalize f 20 = u20 at *; generalize f 21 = u21 at *; generalize f 22 = u22 at *; generalize f 23 = u23 at *; generalize f 24 = u24 at *; generalize f 25 = u25 at *; generalize f 26 = u26 at *; generalize f 27 = u27 at *; generalize f 28 = u28 at *; generalize f 29 = u29 at *; generalize f 30 = u30 at *; clear eL f; go_wp2; exact ret_ex (e := altE [nfE c, nfE d]) B2.out.2.1 HV.out B2.out.2.2 (by omega) Tryz.results30 rfl rfl
end Go.Proofs.YthgghaaddankoaaGreatDoor.Kx
/- Lemmas of mine. -/
namespace Go.Proofs.YthgghaaddankoaaGreatDoor
open Go.RowKit
def RefAt (ok : Nat → Prop) (w : World) (v : Value) (m : MM) : Prop := ∃ al cap, v = .agg #[.int .i64 (m.most : Int), .slice al m.l.length cap, .int .i64 (m.all : Int), .int .i64 (m.met : Int)] ∧ m.l.length ≤ cap ∧ RowAt ok w al m.l
theorem RefAt.go {ok ok' : Nat → Prop} {w w' : World} {v : Value} {m : MM} (h : RefAt ok w v m) (hk : Kept ok ok' w w') : RefAt ok' w' v m := by
  obtain ⟨al, cap, e, hc, hr⟩ := h; exact ⟨al, cap, e, hc, hr.go hk⟩
theorem RefAt.below {ok : Nat → Prop} {w w' : World} {v : Value} {m : MM} (h : RefAt ok w v m) (hb : Below w.heap.size w w') : RefAt ok w' v m := h.go (keptB hb ok)
theorem cellsM {w : World} {g : Nat} {x0 x1 x2 x3 : Value} (h : w.heap[g]? = some (.cells #[x0, x1, x2, x3] 29)) :
    (w.cell? ⟨g, 0, none⟩ = some x0 ∧ w.cell? ⟨g, 1, none⟩ = some x1 ∧ w.cell? ⟨g, 2, none⟩ = some x2 ∧ w.cell? ⟨g, 3, none⟩ = some x3) ∧
      w.frozen? ⟨g, 0, none⟩ = false ∧ w.frozen? ⟨g, 1, none⟩ = false ∧ w.frozen? ⟨g, 2, none⟩ = false ∧ w.frozen? ⟨g, 3, none⟩ = false := by
  refine ⟨⟨?_, ?_, ?_, ?_⟩, Lib.frozen_of_heap h 0, Lib.frozen_of_heap h 1, Lib.frozen_of_heap h 2, Lib.frozen_of_heap h 3⟩ <;> (rw [Lib.cell_of_heap h]; rfl)
def putM4 (w : World) (g : Nat) (y0 y1 y2 y3 : Value) : World := (((w.setCell ⟨g, 0, none⟩ y0).setCell ⟨g, 1, none⟩ y1).setCell ⟨g, 2, none⟩ y2).setCell ⟨g, 3, none⟩ y3
theorem putM4_at {w : World} {g : Nat} {x0 x1 x2 x3 : Value} (h : w.heap[g]? = some (.cells #[x0, x1, x2, x3] 29)) (y0 y1 y2 y3 : Value) : (putM4 w g y0 y1 y2 y3).heap[g]? = some (.cells #[y0, y1, y2, y3] 29) := by
  simp [putM4, World.setCell, Array.getElem?_modify, h]
theorem putM4_ne {w : World} {g k : Nat} (hk : k ≠ g) (y0 y1 y2 y3 : Value) : (putM4 w g y0 y1 y2 y3).heap[k]? = w.heap[k]? := by
  simp [putM4, World.setCell, Array.getElem?_modify, Ne.symm hk]
theorem belM4 {w w' : World} {B g : Nat} (h : Below B w w') (hg : B ≤ g) (y0 y1 y2 y3 : Value) : Below B w (putM4 w' g y0 y1 y2 y3) :=
  (((h.setCell (p := ⟨g, 0, none⟩) hg _).setCell (p := ⟨g, 1, none⟩) hg _).setCell (p := ⟨g, 2, none⟩) hg _).setCell (p := ⟨g, 3, none⟩) hg _
theorem ret_m {fn : Func} {Q : Ending → World → Prop} {a : Act} {W : World} {k g : Nat} {x0 x1 x2 x3 : Value} {fz : Nat × Nat} (hB : W.heap[g]? = some (.cells #[x0, x1, x2, x3] 29 fz)) (hres : fn.results = #[.cell k 29]) (hslot : a.tmps.getD k undef = .pointer (some ⟨g, 0, none⟩)) (hd : a.defers = []) (hR : Q (.returned (.agg #[x0, x1, x2, x3])) W) : bodyPost Tryz.prog fn Q .ret a W := by
  (have c0 : W.cell? ⟨g, 0, none⟩ = some x0 := by rw [Lib.cell_of_heap hB]; rfl); (have c1 : W.cell? ⟨g, 1, none⟩ = some x1 := by rw [Lib.cell_of_heap hB]; rfl); (have c2 : W.cell? ⟨g, 2, none⟩ = some x2 := by rw [Lib.cell_of_heap hB]; rfl); (have c3 : W.cell? ⟨g, 3, none⟩ = some x3 := by rw [Lib.cell_of_heap hB]; rfl); refine bodyPost_ret (v := .agg #[x0, x1, x2, x3]) ?_ hd hR; (have hslot' : a.tmps[k]?.getD undef = .pointer (some ⟨g, 0, none⟩) := by simpa using hslot); simp [results, hres, hslot', go_sem, c0, c1, c2, c3]
theorem ret_m3 {fn : Func} {Q : Ending → World → Prop} {a : Act} {W : World} {k i j g : Nat} {x0 x1 x2 x3 : Value} {fz : Nat × Nat} (hB : W.heap[g]? = some (.cells #[x0, x1, x2, x3] 29 fz)) (hres : fn.results = #[.cell k 29, .tmp i, .tmp j]) (hslot : a.tmps.getD k undef = .pointer (some ⟨g, 0, none⟩)) (hd : a.defers = []) (hR : Q (.returned (.tuple #[.agg #[x0, x1, x2, x3], a.tmps.getD i undef, a.tmps.getD j undef])) W) : bodyPost Tryz.prog fn Q .ret a W := by
  (have c0 : W.cell? ⟨g, 0, none⟩ = some x0 := by rw [Lib.cell_of_heap hB]; rfl); (have c1 : W.cell? ⟨g, 1, none⟩ = some x1 := by rw [Lib.cell_of_heap hB]; rfl); (have c2 : W.cell? ⟨g, 2, none⟩ = some x2 := by rw [Lib.cell_of_heap hB]; rfl); (have c3 : W.cell? ⟨g, 3, none⟩ = some x3 := by rw [Lib.cell_of_heap hB]; rfl); refine bodyPost_ret (v := .tuple #[.agg #[x0, x1, x2, x3], a.tmps.getD i undef, a.tmps.getD j undef]) ?_ hd hR; (have hslot' : a.tmps[k]?.getD undef = .pointer (some ⟨g, 0, none⟩) := by simpa using hslot); simp [results, hres, hslot', go_sem, c0, c1, c2, c3]
set_option maxRecDepth 100000 in
set_option maxHeartbeats 4000000 in
theorem refNew11 (room : Int) (w : World) :
    Calls Tryz.prog 10 #[.int .i64 room] w fun e w' => ∃ v, e = .returned v ∧ RefAt (fun _ => False) w' v (MM.new room) ∧ Below w.heap.size w w' := by
  have hB : (w.alloc (.cells #[.int .i64 0, .slice none 0 0, .int .i64 0, .int .i64 0] 29)).heap[w.heap.size]? = some (.cells #[.int .i64 0, .slice none 0 0, .int .i64 0, .int .i64 0] 29) := blk_new _ _; have HB := Lib.hid hB; have HR := Lib.hid (show ∀ (z : Int) (W : World), ((min room.toNat 10000 : Nat) : Int) = z → RefAt (fun _ => False) W (.agg #[.int .i64 z, .slice none 0 0, .int .i64 0, .int .i64 0]) (MM.new room) from fun z W hn => ⟨none, 0, by rw [← hn]; rfl, Nat.le_refl _, .inl rfl⟩)
  by_cases h0 : room < 0
  · (have hn : ((min room.toNat 10000 : Nat) : Int) = 0 := by omega); (have q1 : ¬ (0 : Int) > 10000 := by omega); go_enter Tryz.func10, Tryz.ntmps10; obtain ⟨⟨c0, c1, c2, c3⟩, f0, f1, f2, f3⟩ := cellsM HB.out; go_wp2; exact ret_m (blk_new _ _) Tryz.results10 rfl rfl ⟨_, rfl, HR.out _ _ hn, bel_al2 _ _⟩
  · by_cases h1 : room > 10000
    · (have hn : ((min room.toNat 10000 : Nat) : Int) = 10000 := by omega); go_enter Tryz.func10, Tryz.ntmps10; obtain ⟨⟨c0, c1, c2, c3⟩, f0, f1, f2, f3⟩ := cellsM HB.out; go_wp2; exact ret_m (blk_new _ _) Tryz.results10 rfl rfl ⟨_, rfl, HR.out _ _ hn, bel_al2 _ _⟩
    · (have hn : ((min room.toNat 10000 : Nat) : Int) = room := by omega); go_enter Tryz.func10, Tryz.ntmps10; obtain ⟨⟨c0, c1, c2, c3⟩, f0, f1, f2, f3⟩ := cellsM HB.out; go_wp2; exact ret_m (blk_new _ _) Tryz.results10 rfl rfl ⟨_, rfl, HR.out _ _ hn, bel_al2 _ _⟩
set_option maxRecDepth 100000 in
set_option maxHeartbeats 4000000 in
theorem refPlace11 {ok ok' : Nat → Prop} (most all met : Nat) (l : List Rx) (al : Option Addr) (cap : Nat) (r : Rx) (v : Value) (w : World) (hl : l.length ≤ 10000) (hR : RowAt ok w al l) (h : ReAt ok' w v r) :
    Calls Tryz.prog 29 #[.agg #[.int .i64 (most : Int), .slice al l.length cap, .int .i64 (all : Int), .int .i64 (met : Int)], v] w fun e w' => e = .returned (.int .i64 (placeI l r)) ∧ Below w.heap.size w w' := by
  obtain ⟨x0, x1, x2, x3, x4, xl, xn, xc, rfl⟩ := cells_re h; obtain ⟨B, hB⟩ : ∃ B, B = (w.alloc (.cells #[.int .i64 (most : Int), .slice al l.length cap, .int .i64 (all : Int), .int .i64 (met : Int)] 29)).alloc (.cells #[.int .u8 x0, .int .u64 x1, .int .u64 x2, .int .u64 x3, .int .u64 x4, .slice xl xn xc] 39) := ⟨_, rfl⟩; (have hbB : Below w.heap.size w B := by rw [hB]; exact al2 _ _ _); (have hcX : B.heap[w.heap.size + 1]? = some (.cells #[.int .u8 x0, .int .u64 x1, .int .u64 x2, .int .u64 x3, .int .u64 x4, .slice xl xn xc] 39) := by rw [hB]; exact blk_at _ _ (by simp)); (have hcM : B.heap[w.heap.size]? = some (.cells #[.int .i64 (most : Int), .slice al l.length cap, .int .i64 (all : Int), .int .i64 (met : Int)] 29) := by rw [hB, Below.heap_alloc _ _ _ (by simp)]; exact blk_new _ _); have KR := Lib.hid fun (y : Rx) (yv : Value) (x : World) (hx : Below B.heap.size B x) (hy : ReAt ok x yv y) => refSame y r yv _ x hy ((h.below hbB).below hx); have HBB := Lib.hid hB; have B0 := Lib.hid hbB; have CB := Lib.hid hcX; have CM0 := Lib.hid hcM; have HR := Lib.hid (hR.below hbB); obtain ⟨z, hz⟩ : ∃ z, z = placeI l r := ⟨_, rfl⟩; rw [← hz]; have HZ := Lib.hid hz; clear h hB hbB hcX hcM hR hz; go_enter Tryz.func29, Tryz.ntmps29; obtain ⟨⟨c0, c1, c2, c3⟩, -⟩ := cellsM CM0.out; go_wp2_with fail; rw [← HBB.out]; go_wp2_with fail; clear c0 c1 c2 c3
  go_loopw [9] (fun y wr => fstInv (hitB l r) l.length B y wr) (fun y _ => l.length - (intOf y).toNat)
  case atStart => exact ⟨0, Nat.zero_le _, rfl, fun j hj => absurd hj (Nat.not_lt_zero _), Below.refl _ _⟩
  case round =>
    obtain ⟨i, hi, rfl, hn, hb⟩ := hrel; have HN := Lib.hid hn; have HB := Lib.hid hb
    by_cases hlt : i < l.length
    · (have q1 : (i : Int) < (l.length : Int) := by omega); obtain ⟨b, off, hab, hblt, hnode⟩ := HR.out.kid hlt; subst hab; (have hx : hitB l r i = sameR l[i] r := by unfold hitB; rw [List.getElem?_eq_getElem hlt]); generalize l[i] = kid at *; obtain ⟨k1, ⟨ta, tb, tc, td⟩, ks1⟩ := kid; obtain ⟨al1, cap1, hcs, hre⟩ := hnode.read; simp only at hcs; have EC := Lib.hid fun x (hx : Below wr.heap.size wr x) => six_keep hblt hcs (HB.out.trans (hx.mono HB.out.size)); have KS := Lib.hid fun x (hx : Below wr.heap.size wr x) => KR.out _ _ x (HB.out.trans (hx.mono HB.out.size)) (hre.below (HB.out.trans (hx.mono HB.out.size))); have CX := Lib.hid fun x (hx : Below wr.heap.size wr x) => cellsR (((HB.out.trans (hx.mono HB.out.size)).block _ (Array.getElem?_eq_some_iff.1 CB.out).1).trans CB.out); have CM := Lib.hid fun x (hx : Below wr.heap.size wr x) => (cellsM (((HB.out.trans (hx.mono HB.out.size)).block _ (Array.getElem?_eq_some_iff.1 CM0.out).1).trans CM0.out)).1.2.1; have Q5 := Lib.hid (show (i : Int) < (l.length : Int) from q1); generalize sameR (.node k1 ⟨ta, tb, tc, td⟩ ks1) r = q at *; have HX := Lib.hid hx; clear hx hn hb hcs hre hnode; go_wp2_with fail; refine wp_region_order (fun j => ([SP.eq (.pointer (some ⟨w.heap.size, 1, none⟩)), SP.eq (.slice (some ⟨b, off, none⟩) l.length cap), SP.eq (.int .i64 i), SP.eq (.pointer (some ⟨b, off + i * 6, none⟩)), SP.eq (.agg #[.int .u8 k1, .int .u64 ta, .int .u64 tb, .int .u64 tc, .int .u64 td, .slice al1 ks1.length cap1]), SP.eq (.agg #[.int .u8 x0, .int .u64 x1, .int .u64 x2, .int .u64 x3, .int .u64 x4, .slice xl xn xc]), SP.eq (.bool q)] : List SP).getD j SP.free) (by kernel_rfl) (by kernel_rfl) ⟨?_, ?_, ?_, ?_, ?_, ?_, ?_, trivial⟩ ?_
      · intro a x K out get hb hK; rw [if_pos (wanted_none rfl)]; have o2 : a.tmps[2]? = some (.pointer (some ⟨w.heap.size, 0, none⟩)) := out 2 (by kernel_rfl); clear out get; go_simp; exact hK _ _ rfl (Below.refl _ _)
      · intro a x K out get hb hK; rw [if_pos (wanted_none rfl)]; obtain ⟨y12, hy12, rfl⟩ := get 0 _ _ rfl rfl (by kernel_rfl); clear out get; have cm := CM.out x hb; go_simp; exact hK _ _ rfl (Below.refl _ _)
      · intro a x K out get hb hK; rw [if_pos (wanted_none rfl)]; have o5 : a.tmps[5]? = some (.int .i64 i) := out 5 (by kernel_rfl); clear out get; go_simp; exact hK _ _ rfl (Below.refl _ _)
      · intro a x K out get hb hK; rw [if_pos (wanted_none rfl)]; obtain ⟨y13, hy13, rfl⟩ := get 1 _ _ rfl rfl (by kernel_rfl); obtain ⟨y14, hy14, rfl⟩ := get 2 _ _ rfl rfl (by kernel_rfl); clear out get; have hq5 := Q5.out; go_simp; exact hK _ _ rfl (Below.refl _ _)
      · intro a x K out get hb hK; rw [if_pos (wanted_none rfl)]; obtain ⟨y15, hy15, rfl⟩ := get 3 _ _ rfl rfl (by kernel_rfl); clear out get; obtain ⟨c0, c1, c2, c3, c4, c5⟩ := EC.out x hb; go_simp; exact hK _ _ rfl (Below.refl _ _)
      · intro a x K out get hb hK; rw [if_pos (wanted_none rfl)]; have o3 : a.tmps[3]? = some (.pointer (some ⟨w.heap.size + 1, 0, none⟩)) := out 3 (by kernel_rfl); clear out get; obtain ⟨c0, c1, c2, c3, c4, c5, -⟩ := CX.out x hb; go_simp; exact hK _ _ rfl (Below.refl _ _)
      · intro a x K out get hb hK; rw [if_pos (wanted_none rfl)]; obtain ⟨y16, hy16, rfl⟩ := get 4 _ _ rfl rfl (by kernel_rfl); obtain ⟨y17, hy17, rfl⟩ := get 5 _ _ rfl rfl (by kernel_rfl); clear out get; go_simp; refine (KS.out x hb).mono ?_; rintro e w2 ⟨rfl, hb2⟩; exact hK _ _ rfl hb2
      refine ao_fin (isD := fun s => decide (12 ≤ s) && decide (s ≤ 18)) (by kernel_rfl) ?_; intro f9 w1 hv hb1; have h18 : f9 18 = .bool q := hv 6 _ _ rfl rfl; clear hv; generalize hF : (Act.mk (List.toArray (frm f9 _ 0 _)) _) = fr; simp [frm] at hF; rw [h18] at hF; subst hF; generalize f9 12 = u12 at *; generalize f9 13 = u13 at *; generalize f9 14 = u14 at *; generalize f9 15 = u15 at *; generalize f9 16 = u16 at *; generalize f9 17 = u17 at *; clear h18 f9; have HB1 := Lib.hid (HB.out.trans (hb1.mono HB.out.size)); have HBW := Lib.hid (B0.out.trans (HB1.out.mono B0.out.size)); clear hb1 EC CX CM KS
      cases q with
      | true =>
        (have hzi : z = (i : Int) := by rw [HZ.out]; exact placeI_hit hlt HN.out HX.out); have HZI := Lib.hid hzi; clear hzi; go_wp2; go_ret; exact ⟨by rw [HZI.out]; rfl, HBW.out⟩
      | false =>
        have hnx := fst_next HN.out HX.out; have HNX := Lib.hid hnx; clear hnx; go_wp2; exact ⟨⟨i + 1, hlt, by go_num, HNX.out, HB1.out⟩, by simp [intOf]; omega⟩
    · (have q1 : ¬ (i : Int) < (l.length : Int) := by omega); (have hzi : z = -1 := by rw [HZ.out]; exact placeI_none fun j hj => hn j (by omega)); have HZI := Lib.hid hzi; have HBW := Lib.hid (B0.out.trans (hb.mono B0.out.size)); clear hzi hn hb; go_wp2; go_ret; exact ⟨by rw [HZI.out]; rfl, HBW.out⟩
open Go.RowKit
def FindPost (ok : Nat → Prop) (p : MM × Int × Bool) (w : World) (e : Ending) (w' : World) : Prop := ∃ v, e = .returned (.tuple #[v, .int .i64 p.2.1, .bool p.2.2]) ∧ RefAt (okN ok w.heap.size) w' v p.1 ∧ Below w.heap.size w w'
def B3 (w W : World) (X Y Z : Obj) : Prop := W.heap[w.heap.size]? = some X ∧ W.heap[w.heap.size + 1]? = some Y ∧ W.heap[w.heap.size + 1 + 1]? = some Z ∧ Below w.heap.size w W
theorem B3.go {w W W' : World} {X Y Z : Obj} (h : B3 w W X Y Z) (hb : Below W.heap.size W W') : B3 w W' X Y Z :=
  ⟨(hb.block _ (Array.getElem?_eq_some_iff.1 h.1).1).trans h.1, (hb.block _ (Array.getElem?_eq_some_iff.1 h.2.1).1).trans h.2.1, (hb.block _ (Array.getElem?_eq_some_iff.1 h.2.2.1).1).trans h.2.2.1, h.2.2.2.trans (hb.mono h.2.2.2.size)⟩
theorem B3.new (w : World) (X Y Z : Obj) : B3 w (((w.alloc X).alloc Y).alloc Z) X Y Z := ⟨by rw [Below.heap_alloc _ _ _ (by simp; omega), Below.heap_alloc _ _ _ (by simp)]; exact blk_new _ _, by rw [Below.heap_alloc _ _ _ (by simp)]; exact blk_at _ _ (by simp), blk_at _ _ (by simp), al3 _ _ _ _⟩
theorem B3.set {w W : World} {a b c d : Value} {Y Z : Obj} (h : B3 w W (.cells #[a, b, c, d] 29) Y Z) (i : Nat) (y : Value) : B3 w (W.setCell ⟨w.heap.size, i, none⟩ y) (.cells (#[a, b, c, d].setIfInBounds i y) 29) Y Z := by
  obtain ⟨h1, h2, h3, h4⟩ := h; refine ⟨?_, ?_, ?_, h4.setCell (p := ⟨w.heap.size, i, none⟩) (Nat.le_refl _) _⟩
  · simp [World.setCell, Array.getElem?_modify, h1]
  · rw [Below.heap_setCell _ _ _ _ (by show w.heap.size + 1 ≠ w.heap.size; omega)]; exact h2
  · rw [Below.heap_setCell _ _ _ _ (by show w.heap.size + 1 + 1 ≠ w.heap.size; omega)]; exact h3
set_option maxRecDepth 100000 in
set_option maxHeartbeats 4000000 in
theorem refFind11 {ok ok' : Nat → Prop} (m : MM) (mv : Value) (r : Rx) (v : Value) (w : World) (hbig : r.size ≤ 1000000) (hl : m.l.length ≤ 10000) (ha : m.all ≤ 1000000000) (hmt : m.met ≤ m.all) (hM : RefAt ok w mv m) (h : ReAt ok' w v r) :
    Calls Tryz.prog 12 #[mv, v] w (FindPost ok (m.find r) w) := by
  obtain ⟨most, l, all, met⟩ := m; obtain ⟨al, cap, rfl, hcap, hR⟩ := hM; simp only at hl ha hmt hcap hR ⊢; obtain ⟨x0, x1, x2, x3, x4, xl, xn, xc, rfl⟩ := cells_re h; have B := Lib.hid (B3.new w (.cells #[.int .i64 (most : Int), .slice al l.length cap, .int .i64 (all : Int), .int .i64 (met : Int)] 29) (.cells #[.int .u8 x0, .int .u64 x1, .int .u64 x2, .int .u64 x3, .int .u64 x4, .slice xl xn xc] 39) (.cells #[.int .i64 0, .slice none 0 0, .int .i64 0, .int .i64 0] 29)); have KM := Lib.hid fun x (hx : Below w.heap.size w x) => refMay_any r _ x hbig (h.below hx); have HR := Lib.hid hR; unfold MM.find
  cases hm : mayR r with
  | false =>
    rw [hm] at KM; rw [if_neg (by decide)]; clear hm h hR; go_enter Tryz.func12, Tryz.ntmps12; go_wp2_with fail; refine (KM.out _ B.out.2.2.2).mono ?_; rintro e w1 ⟨rfl, hb⟩; replace B := Lib.hid (B.out.go hb); clear hb; obtain ⟨⟨c0, c1, c2, c3⟩, -⟩ := cellsM B.out.1; obtain ⟨⟨d0, d1, d2, d3⟩, f0, f1, f2, f3⟩ := cellsM B.out.2.2.1; go_wp2; refine ret_m3 (putM4_at B.out.2.2.1 _ _ _ _) Tryz.results12 rfl rfl ⟨_, rfl, ⟨_, _, rfl, hcap, ?_⟩, belM4 B.out.2.2.2 (by omega) _ _ _ _⟩; exact (HR.out.below (belM4 B.out.2.2.2 (by omega) _ _ _ _)).imp fun _ _ h => .inl h
  | true =>
    rw [hm] at KM; rw [if_pos rfl]; obtain ⟨e0, he0, we, hs⟩ := may_ex h hm; (have hq : normX r = (nfE e0).rx := by unfold normX; rw [← he0, exX_of we hs]; rfl); rw [hq]; have KO0 := Lib.hid fun x (hx : Below w.heap.size w x) => (Kx.ref8of e0.size e0 (Nat.le_refl _) we (by omega) ok' _ x (by rw [he0]; exact h.below hx)).mono fun e w2 ⟨v, h1, h2, h3⟩ => show ExPost (fun _ => True) (nfE e0) x e w2 from ⟨v, h1, h2.imp fun _ _ _ => .inl trivial, h3⟩; have KP0 := Lib.hid fun x v2 (hx : Below w.heap.size w x) (h2 : ReAt (fun _ => True) x v2 (nfE e0).rx) => refPlace11 most (all + 1) met l al cap (nfE e0).rx v2 x hl (hR.below hx) h2; obtain ⟨z, hz⟩ : ∃ z, z = placeI l (nfE e0).rx := ⟨_, rfl⟩; rw [← hz] at KP0; rw [← hz]; have hlo := placeI_lo l (nfE e0).rx; rw [← hz] at hlo; obtain ⟨p, hp⟩ : ∃ p : MM × Int × Bool, p = if 0 ≤ z then (⟨most, l, all + 1, met + 1⟩, z, true) else (⟨most, l, all + 1, met⟩, 0, false) := ⟨_, rfl⟩; rw [← hp]; have HP := Lib.hid hp; have HLO := Lib.hid hlo; clear hm h hR hq hz he0 hp hlo; (have qa : (all : Int) ≤ 1000000000 := by omega); (have qm : (met : Int) ≤ 1000000000 := by omega); go_enter Tryz.func12, Tryz.ntmps12; go_wp2_with fail; refine (KM.out _ B.out.2.2.2).mono ?_; rintro e w1 ⟨rfl, hb⟩; replace B := Lib.hid (B.out.go hb); clear hb; obtain ⟨⟨c0, c1, c2, c3⟩, f0, f1, f2, f3⟩ := cellsM B.out.1; go_wp2_with fail; have B1 := Lib.hid (show B3 w (w1.setCell ⟨w.heap.size, 2, none⟩ (.int .i64 ((all : Int) + 1))) (.cells #[.int .i64 (most : Int), .slice al l.length cap, .int .i64 ((all : Int) + 1), .int .i64 (met : Int)] 29) (.cells #[.int .u8 x0, .int .u64 x1, .int .u64 x2, .int .u64 x3, .int .u64 x4, .slice xl xn xc] 39) (.cells #[.int .i64 0, .slice none 0 0, .int .i64 0, .int .i64 0] 29) from B.out.set 2 (.int .i64 ((all : Int) + 1))); clear B c0 c1 c2 c3 f0 f1 f2 f3; obtain ⟨W1, hW1⟩ : ∃ x, x = w1.setCell ⟨w.heap.size, 2, none⟩ (.int .i64 ((all : Int) + 1)) := ⟨_, rfl⟩; rw [← hW1] at B1 ⊢; clear hW1; have CM := Lib.hid fun x (hx : Below W1.heap.size W1 x) => (cellsM (B1.out.go hx).1).1; have CX := Lib.hid fun x (hx : Below W1.heap.size W1 x) => cellsR (B1.out.go hx).2.1; have KO := Lib.hid fun x (hx : Below W1.heap.size W1 x) => KO0.out x (B1.out.go hx).2.2.2; have KP := Lib.hid fun x v2 (hx : Below W1.heap.size W1 x) (h2 : ReAt (fun _ => True) x v2 (nfE e0).rx) => KP0.out x v2 (B1.out.go hx).2.2.2 h2; rw [show ((all + 1 : Nat) : Int) = (all : Int) + 1 from by omega] at KP; generalize nfE e0 = e1 at *; refine wp_region_order (fun j => ([SP.eq (.agg #[.int .i64 (most : Int), .slice al l.length cap, .int .i64 ((all : Int) + 1), .int .i64 (met : Int)]), SP.eq (.agg #[.int .u8 x0, .int .u64 x1, .int .u64 x2, .int .u64 x3, .int .u64 x4, .slice xl xn xc]), SP.ex (fun _ => True) e1, SP.eq (.int .i64 z), SP.eq (.int .i64 z)] : List SP).getD j SP.free) (by kernel_rfl) (by kernel_rfl) ⟨?_, ?_, ?_, ?_, ?_, trivial⟩ ?_
    · intro a x K out get hb hK; rw [if_pos (wanted_none rfl)]; have o2 : a.tmps[2]? = some (.pointer (some ⟨w.heap.size, 0, none⟩)) := out 2 (by kernel_rfl); clear out get; obtain ⟨m0, m1, m2, m3⟩ := CM.out x hb; go_simp; exact hK _ _ rfl (Below.refl _ _)
    · intro a x K out get hb hK; rw [if_pos (wanted_none rfl)]; have o3 : a.tmps[3]? = some (.pointer (some ⟨w.heap.size + 1, 0, none⟩)) := out 3 (by kernel_rfl); clear out get; obtain ⟨c0, c1, c2, c3, c4, c5, -⟩ := CX.out x hb; go_simp; exact hK _ _ rfl (Below.refl _ _)
    · intro a x K out get hb hK; rw [if_pos (wanted_none rfl)]; obtain ⟨y17, hy17, rfl⟩ := get 1 _ _ rfl rfl (by kernel_rfl); clear out get; go_simp; refine (KO.out x hb).mono ?_; rintro e w2 ⟨v2, rfl, hv2, hb2⟩; exact hK _ _ (ExV.of hv2 fun _ _ _ => trivial) hb2
    · intro a x K out get hb hK; rw [if_pos (wanted_none rfl)]; obtain ⟨y16, hy16, rfl⟩ := get 0 _ _ rfl rfl (by kernel_rfl); obtain ⟨y18, hy18, ⟨p0, p1, p2, p3, p4, pl, pn, pc, rfl, hrow18⟩⟩ := get 2 _ _ rfl rfl (by kernel_rfl); clear out get; go_simp; refine (KP.out x _ hb hrow18).mono ?_; rintro e w2 ⟨rfl, hb2⟩; exact hK _ _ rfl hb2
    · intro a x K out get hb hK; rw [if_pos (wanted_none rfl)]; obtain ⟨y19, hy19, rfl⟩ := get 3 _ _ rfl rfl (by kernel_rfl); clear out get; go_simp; exact hK _ _ rfl (Below.refl _ _)
    refine ao_fin (isD := fun s => decide (s = 7) || (decide (16 ≤ s) && decide (s ≤ 19))) (by kernel_rfl) ?_; intro f9 w2 hv hb1; have h7 : f9 7 = .int .i64 z := hv 4 _ _ rfl rfl; clear hv; generalize hF : (Act.mk (List.toArray (frm f9 _ 0 _)) _) = fr; simp [frm] at hF; rw [h7] at hF; subst hF; generalize f9 16 = u16 at *; generalize f9 17 = u17 at *; generalize f9 18 = u18 at *; generalize f9 19 = u19 at *; clear h7 f9; have B2 := Lib.hid (B1.out.go hb1); clear hb1 CM CX KO KP KO0 KP0 KM B1
    by_cases hz : z < 0
    · (have hpp : p = (⟨most, l, all + 1, met⟩, 0, false) := by rw [HP.out, if_neg (by omega)]); have HPP := Lib.hid hpp; clear HP hpp; obtain ⟨⟨c0, c1, c2, c3⟩, -⟩ := cellsM B2.out.1; obtain ⟨⟨d0, d1, d2, d3⟩, f0, f1, f2, f3⟩ := cellsM B2.out.2.2.1; go_wp2; refine ret_m3 (putM4_at B2.out.2.2.1 _ _ _ _) Tryz.results12 rfl rfl ?_; rw [HPP.out]; refine ⟨_, rfl, ⟨al, cap, ?_, hcap, ?_⟩, belM4 B2.out.2.2.2 (by omega) _ _ _ _⟩
      · rfl
      · exact (HR.out.below (belM4 B2.out.2.2.2 (by omega) _ _ _ _)).imp fun _ _ h => .inl h
    · (have hpp : p = (⟨most, l, all + 1, met + 1⟩, z, true) := by rw [HP.out, if_pos (by omega)]); have HPP := Lib.hid hpp; clear HP hpp; obtain ⟨⟨c0, c1, c2, c3⟩, f0, f1, f2, f3⟩ := cellsM B2.out.1; have B3 := Lib.hid (show B3 w (w2.setCell ⟨w.heap.size, 3, none⟩ (.int .i64 ((met : Int) + 1))) (.cells #[.int .i64 (most : Int), .slice al l.length cap, .int .i64 ((all : Int) + 1), .int .i64 ((met : Int) + 1)] 29) (.cells #[.int .u8 x0, .int .u64 x1, .int .u64 x2, .int .u64 x3, .int .u64 x4, .slice xl xn xc] 39) (.cells #[.int .i64 0, .slice none 0 0, .int .i64 0, .int .i64 0] 29) from B2.out.set 3 (.int .i64 ((met : Int) + 1))); obtain ⟨⟨d0, d1, d2, d3⟩, k0, k1, k2, k3⟩ := cellsM B3.out.2.2.1; obtain ⟨⟨j0, j1, j2, j3⟩, -⟩ := cellsM B3.out.1; go_wp2; refine ret_m3 (putM4_at B3.out.2.2.1 _ _ _ _) Tryz.results12 rfl rfl ?_; rw [HPP.out]; refine ⟨_, rfl, ⟨al, cap, ?_, hcap, ?_⟩, belM4 B3.out.2.2.2 (by omega) _ _ _ _⟩
      · rfl
      · exact (HR.out.below (belM4 B3.out.2.2.2 (by omega) _ _ _ _)).imp fun _ _ h => .inl h
open Go.RowKit
theorem wp_append_onto {ok : Nat → Prop} {W : World} {o : Oper} {a : Act} {K : Act → World → Prop} {Q : Exit → Act → World → Prop} (s x : Operand)
    (ho : o.op = .call { callee := .builtin .append, args := #[s, x], argTypes := #[27, 27] })
    (base g : Nat) (hbg : base ≤ g) (hbase : base ≤ W.heap.size) (hs : a.eval s = .slice (some ⟨g, 0, none⟩) 0 0) (hg : W.heap[g]? = some (.cells #[] 39))
    (al : Option Addr) (l : List Rx) (c : Nat) (hx : a.eval x = .slice al l.length c) (hl : l.length ≤ 1000000) (hR : RowAt ok W al l)
    (h : ∀ v' W' ys, W'.ownsRow base 39 6 v' l.length ys → RowVals ok W ys l → Below W.heap.size W W' → K (a.put o.dst v') W') : o.wp Tryz.prog a W K Q := by
  obtain ⟨i0, hi, hz0, hz1, hz2⟩ := info_parts infoR; have hown : W.ownsRow base 39 6 (.slice (some ⟨g, 0, none⟩) 0 0) 0 [] := ⟨rfl, .inr ⟨g, 0, #[], rfl, hbg, hg, Nat.le_refl _, by unfold maxLen; omega, rfl, rfl⟩⟩; obtain ⟨ys, h1, h2, ⟨ad, rfl, h3⟩ | ⟨rfl, rfl⟩⟩ := row_vals hR
  · by_cases hm : l.length = 0
    · have hy : ys = [] := List.eq_nil_of_length_eq_zero (by rw [h1.1, hm]); subst hy; have hr := run_append_room (P := Tryz.prog) W 27 o.type 39 i0 Tryz.underlying27 hi g 0 0 #[] hg ad 0 c [] (by simp) (by intro j u hj; simp at hj) (by simp) (Nat.le_refl _) (by simp); unfold Oper.wp execOp; simp only [ho, resolve, invoke, builtin, Sem.run_bind, Sem.run_pure, Result.andThen_ok, List.map_toArray, List.map_cons, List.map_nil, hs, hx, hm, hr]; refine h _ _ [] ?_ h1 ⟨rfl, rfl, rfl, by simp, fun k hk => ?_⟩
      · rw [hm]; refine ⟨rfl, .inr ⟨g, 0, _, rfl, hbg, setRow_heap W g #[] _ 39 _ hg, Nat.le_refl _, by unfold maxLen; omega, by simp, by simp⟩⟩
      · by_cases e : k = g
        · subst e; rw [setRow_heap W k #[] _ 39 _ hg, hg]; simp
        · exact setRow_other W g k _ e
    · have hr := run_append_grow (P := Tryz.prog) W 27 o.type 39 i0 _ Tryz.underlying27 hi hz0 ⟨g, 0, none⟩ 0 0 [] (by simp) (by intro j u hj; simp at hj) ad l.length c ys (by rw [h1.1, hz1]) h3 (by omega) (by omega) (by rw [hz2]; exact growslice_fits (by omega) (by omega)); unfold Oper.wp execOp; simp only [ho, resolve, invoke, builtin, Sem.run_bind, Sem.run_pure, Result.andThen_ok, List.map_toArray, List.map_cons, List.map_nil, hs, hx, hr]; have hge := grownCap_ge W (0 + l.length) 0 39; have hcm : grownCap W (0 + l.length) 0 39 ≤ maxLen := grownCap_le_maxLen W (0 + l.length) 0 39 (by unfold maxLen; omega); refine h _ _ ys ?_ h1 (((Below.refl _ W).drew).alloc (by simp) _); refine ⟨h1.1, .inr ⟨W.heap.size, _, _, ?_, hbase, blk_new W.drew _, by omega, hcm, ?_, ?_⟩⟩
      · rw [Nat.zero_add]
      · simp only [Array.size_append, List.size_toArray, size_zeroCells, h1.1]; simp only [Nat.zero_add] at hge ⊢; simp [Value.cells]; omega
      · simp only [Array.toList_append, List.append_assoc]; rw [← h1.1]; simp
  · unfold Oper.wp execOp; have hr := run_append_none (P := Tryz.prog) base 27 o.type 39 i0 6 c Tryz.underlying27 hi (.slice (some ⟨g, 0, none⟩) 0 0) 0 [] hown; simp only [ho, resolve, invoke, builtin, Sem.run_bind, Sem.run_pure, Result.andThen_ok, List.map_toArray, List.map_cons, List.map_nil, hs, hx, List.length_nil, hr]; exact h _ _ [] hown (RowVals.nil _ _) (Below.refl _ _)
def SP.emp11 (B : Nat) : SP := ⟨fun x w => ∃ g, x = .slice (some ⟨g, 0, none⟩) 0 0 ∧ B ≤ g ∧ w.heap[g]? = some (.cells #[] 39), fun _ _ _ ⟨g, h1, h2, h3⟩ hb => ⟨g, h1, h2, (hb.block _ (Array.getElem?_eq_some_iff.1 h3).1).trans h3⟩⟩
def Own11 (P : Nat → Prop) (B : Nat) (l : List Rx) (x : Value) (w : World) : Prop := B ≤ w.heap.size ∧ ∃ xs, w.ownsRow B 39 6 x l.length xs ∧ RowVals (fun b => P b ∧ b < B) w xs l
theorem Own11.below {P : Nat → Prop} {B : Nat} {l : List Rx} {x : Value} {w w' : World} (h : Own11 P B l x w) (hb : Below w.heap.size w w') : Own11 P B l x w' := by
  obtain ⟨h0, xs, h1, h2⟩ := h; exact ⟨Nat.le_trans h0 hb.size, xs, ownR_below h1 hb, h2.go (keptB hb _)⟩
def SP.own11 (P : Nat → Prop) (B : Nat) (l : List Rx) : SP := ⟨Own11 P B l, fun _ _ _ h hb => h.below hb⟩
theorem B3.put {w W : World} {a b c d : Value} {Y Z : Obj} (h : B3 w W (.cells #[a, b, c, d] 29) Y Z) (y0 y1 y2 y3 : Value) : B3 w (putM4 W w.heap.size y0 y1 y2 y3) (.cells #[y0, y1, y2, y3] 29) Y Z := by
  obtain ⟨h1, h2, h3, h4⟩ := h; refine ⟨putM4_at h1 _ _ _ _, ?_, ?_, belM4 h4 (Nat.le_refl _) _ _ _ _⟩
  · rw [putM4_ne (by omega)]; exact h2
  · rw [putM4_ne (by omega)]; exact h3
theorem MM.put_find (m : MM) (r : Rx) (h : (m.find r).2.2 = true ∨ mayR r = false ∨ m.most ≤ m.l.length) : m.put r = m.find r := by
  unfold MM.find at h; unfold MM.put MM.find
  cases hm : mayR r with
  | false => rw [if_neg (by decide), if_neg (by decide)]
  | true =>
    rw [if_pos rfl, if_pos rfl]
    by_cases hz : 0 ≤ placeI m.l (normX r)
    · rw [if_pos hz, if_pos hz]
    · rw [if_neg hz, if_neg hz]; rw [hm, if_pos rfl, if_neg hz] at h
      rcases h with h | h | h
      · cases h
      · cases h
      · rw [if_pos h]
theorem MM.put_new (m : MM) (r : Rx) (h0 : (m.find r).2.2 = false) (h1 : mayR r = true) (h2 : ¬ m.most ≤ m.l.length) : m.find r = (⟨m.most, m.l, m.all + 1, m.met⟩, 0, false) ∧ m.put r = (⟨m.most, m.l ++ [normX r], m.all + 1, m.met⟩, (m.l.length : Int), true) := by
  unfold MM.find at h0 ⊢; unfold MM.put; rw [h1, if_pos rfl] at h0; rw [h1, if_pos rfl, if_pos rfl]
  by_cases hz : 0 ≤ placeI m.l (normX r)
  · rw [if_pos hz] at h0; cases h0
  · rw [if_neg hz, if_neg hz, if_neg h2]; exact ⟨rfl, rfl⟩
theorem fin11 {ok okk : Nat → Prop} {w W : World} {al : Option Addr} {cap : Nat} (m : MM) (z : Int) (q : Bool) (hok : ∀ b, okk b → ok b ∧ b < w.heap.size) (hb : Below w.heap.size w W) (hc : m.l.length ≤ cap) (hR : RowAt (okN okk (w.heap.size + 1 + 1 + 1)) W al m.l) :
    FindPost ok (m, z, q) w (.returned (.tuple #[.agg #[.int .i64 (m.most : Int), .slice al m.l.length cap, .int .i64 (m.all : Int), .int .i64 (m.met : Int)], .int .i64 z, .bool q])) (putM4 W (w.heap.size + 1 + 1) (.int .i64 (m.most : Int)) (.slice al m.l.length cap) (.int .i64 (m.all : Int)) (.int .i64 (m.met : Int))) := by
  refine ⟨_, rfl, ⟨al, cap, rfl, hc, ?_⟩, belM4 hb (by omega) _ _ _ _⟩; refine hR.go ⟨by simp [putM4, World.setCell], fun b _ h => ⟨?_, ?_⟩⟩
  · rcases h with h | h
    · exact .inl (hok b h).1
    · exact .inr (by omega)
  · refine putM4_ne (fun e => ?_) _ _ _ _
    rcases h with h | h
    · have := (hok b h).2; omega
    · omega
theorem row_put11 {ok okk : Nat → Prop} {w W : World} {al : Option Addr} {l : List Rx} (hok : ∀ b, okk b → ok b ∧ b < w.heap.size) (hR : RowAt (okN okk (w.heap.size + 1 + 1 + 1)) W al l) (y0 y1 y2 y3 : Value) : RowAt (okN okk (w.heap.size + 1 + 1 + 1)) (putM4 W w.heap.size y0 y1 y2 y3) al l := by
  refine hR.go ⟨by simp [putM4, World.setCell], fun b _ h => ⟨h, putM4_ne (fun e => ?_) _ _ _ _⟩⟩
  rcases h with h | h
  · have := (hok b h).2; omega
  · omega
theorem B3.lt3 {w W : World} {X Y Z : Obj} (h : B3 w W X Y Z) : w.heap.size + 1 + 1 + 1 ≤ W.heap.size := (Array.getElem?_eq_some_iff.1 h.2.2.1).1
theorem B3.keep {w W W' : World} {X Y Z : Obj} (h : B3 w W X Y Z) (hb : Below (w.heap.size + 1 + 1 + 1) W W') : B3 w W' X Y Z :=
  ⟨(hb.block _ (by omega)).trans h.1, (hb.block _ (by omega)).trans h.2.1, (hb.block _ (by omega)).trans h.2.2.1, h.2.2.2.trans (hb.mono (by omega))⟩
theorem row_set11 {ok okk : Nat → Prop} {w W : World} {al : Option Addr} {l : List Rx} (hok : ∀ b, okk b → ok b ∧ b < w.heap.size) (hR : RowAt (okN okk (w.heap.size + 1 + 1 + 1)) W al l) (i : Nat) (y : Value) : RowAt (okN okk (w.heap.size + 1 + 1 + 1)) (W.setCell ⟨w.heap.size, i, none⟩ y) al l := by
  refine hR.go ⟨by simp [World.setCell], fun b _ h => ⟨h, Below.heap_setCell _ _ _ _ fun e => ?_⟩⟩; have e' : b = w.heap.size := e
  rcases h with h | h
  · have := (hok b h).2; omega
  · omega
theorem drew_at11 {w : World} {g : Nat} {o : Obj} (h : w.heap[g]? = some o) : w.drew.heap[g]? = some o := h
theorem find_drew11 {ok : Nat → Prop} {p : MM × Int × Bool} {w w' : World} {x : Ending} (h : FindPost ok p w x w') : FindPost ok p w x w'.drew := by
  obtain ⟨v, h1, h2, h3⟩ := h; exact ⟨v, h1, h2.below (Below.refl _ w').drew, h3.drew⟩
theorem row_snoc11 {ok okk : Nat → Prop} {w : World} {bs n N : Nat} {W : World} {xs : List Value} {l : List Rx} {c0 c1 c2 c3 c4 c5 : Value} {r : Rx} (hok : ∀ b, okk b → ok b ∧ b < w.heap.size) (h : RowVals (fun b => okN okk (w.heap.size + 1 + 1 + 1) b ∧ b < bs) W xs l) (h1 : ReAt (okN okk n) W (.agg #[c0, c1, c2, c3, c4, c5]) r) (hn : bs ≤ n) (_hN : n ≤ N) (hw : w.heap.size + 1 + 1 + 1 ≤ bs) :
    RowVals (fun b => okN okk (w.heap.size + 1 + 1 + 1) b ∧ (b < bs ∨ n ≤ b)) W (xs ++ [c0, c1, c2, c3, c4, c5]) (l ++ [r]) :=
  (h.go ⟨Nat.le_refl _, fun b _ hb => ⟨⟨hb.1, .inl hb.2⟩, rfl⟩⟩).append (RowVals.one (h1.imp fun b _ hb => by
    rcases hb with hb | hb
    · have := (hok b hb).2; exact ⟨.inl hb, .inl (by omega)⟩
    · exact ⟨.inr (by omega), .inr hb⟩))
set_option maxRecDepth 100000 in
set_option maxHeartbeats 4000000 in
theorem refPut11 {ok : Nat → Prop} (m : MM) (mv : Value) (r : Rx) (v : Value) (w : World) (hbig : r.size ≤ 1000000) (hl : m.l.length ≤ 10000) (hmo : m.most ≤ 10000) (ha : m.all ≤ 1000000000) (hmt : m.met ≤ m.all) (hM : RefAt ok w mv m) (h : ReAt ok w v r) :
    Calls Tryz.prog 14 #[mv, v] w (FindPost ok (m.put r) w) := by
  obtain ⟨okk, hokk⟩ : ∃ P : Nat → Prop, P = fun b => ok b ∧ b < w.heap.size := ⟨_, rfl⟩
  have hM' : RefAt okk w mv m := by
    obtain ⟨al, cap, e, hc, hr⟩ := hM; exact ⟨al, cap, e, hc, hr.imp fun b h1 h2 => by rw [hokk]; exact ⟨h2, h1⟩⟩
  (have h' : ReAt okk w v r := h.imp fun b h1 h2 => by rw [hokk]; exact ⟨h2, h1⟩); (have hok : ∀ b, okk b → ok b ∧ b < w.heap.size := fun b hb => by rw [hokk] at hb; exact hb); obtain ⟨al, cap, rfl, hcap, hR⟩ := hM'; obtain ⟨x0, x1, x2, x3, x4, xl, xn, xc, rfl⟩ := cells_re h'; have KF := Lib.hid fun x (hx : Below w.heap.size w x) => refFind11 (ok := okk) m _ r _ x hbig hl ha hmt ⟨al, cap, rfl, hcap, hR.below hx⟩ (h'.below hx); have KM := Lib.hid fun x (hx : Below w.heap.size w x) => refMay_any r _ x hbig (h'.below hx); have HPF := m.put_find r; have HPN := m.put_new r; have HEX := may_ex h'; have HRE := Lib.hid h'; obtain ⟨most, l, all, met⟩ := m; have B := Lib.hid (B3.new w (.cells #[.int .i64 (most : Int), .slice al l.length cap, .int .i64 (all : Int), .int .i64 (met : Int)] 29) (.cells #[.int .u8 x0, .int .u64 x1, .int .u64 x2, .int .u64 x3, .int .u64 x4, .slice xl xn xc] 39) (.cells #[.int .i64 0, .slice none 0 0, .int .i64 0, .int .i64 0] 29)); obtain ⟨p, hp⟩ : ∃ p, p = MM.find ⟨most, l, all, met⟩ r := ⟨_, rfl⟩; have hpl := MM.find_l ⟨most, l, all, met⟩ r; rw [← hp] at KF HPF HPN hpl; have HOK := Lib.hid hok; clear hM h h' hR hok hp hokk; obtain ⟨⟨most2, l2, all2, met2⟩, z2, q⟩ := p; simp only at hpl HPF HPN hl hmo; obtain ⟨rfl, rfl⟩ := hpl; obtain ⟨pp, hpp⟩ : ∃ pp, pp = MM.put ⟨most2, l2, all, met⟩ r := ⟨_, rfl⟩; rw [← hpp] at HPF HPN ⊢; have HF := Lib.hid HPF; have HN := Lib.hid HPN; have HE := Lib.hid HEX; clear HPF HPN hpp HEX; go_enter Tryz.func14, Tryz.ntmps14; go_wp2_with fail; refine (KF.out _ B.out.2.2.2).mono ?_; rintro e w1 ⟨v1, rfl, ⟨al2, cap2, rfl, hcap2, hR2⟩, hb⟩; have B1 := Lib.hid (B.out.go hb); rw [show (((w.alloc (.cells #[.int .i64 (most2 : Int), .slice al l2.length cap, .int .i64 (all : Int), .int .i64 (met : Int)] 29)).alloc (.cells #[.int .u8 x0, .int .u64 x1, .int .u64 x2, .int .u64 x3, .int .u64 x4, .slice xl xn xc] 39)).alloc (.cells #[.int .i64 0, .slice none 0 0, .int .i64 0, .int .i64 0] 29)).heap.size = w.heap.size + 1 + 1 + 1 from by simp] at hR2; have HR2 := Lib.hid hR2; clear hb B KF hR2; obtain ⟨j0, j1, j2, j3, j4, j5, -⟩ := cellsR B1.out.2.1; obtain ⟨⟨c0, c1, c2, c3⟩, f0, f1, f2, f3⟩ := cellsM B1.out.1; obtain ⟨⟨d0, d1, d2, d3⟩, k0, k1, k2, k3⟩ := cellsM B1.out.2.2.1; have B2 := Lib.hid (B1.out.put (.int .i64 (most2 : Int)) (.slice al2 l2.length cap2) (.int .i64 (all2 : Int)) (.int .i64 (met2 : Int))); have HS2 := Lib.hid (row_put11 HOK.out HR2.out (.int .i64 (most2 : Int)) (.slice al2 l2.length cap2) (.int .i64 (all2 : Int)) (.int .i64 (met2 : Int)))
  cases q with
  | true =>
    have HPP := Lib.hid (HF.out (.inl rfl)); clear HN HF; go_wp2; refine ret_m3 (putM4_at B2.out.2.2.1 _ _ _ _) Tryz.results14 rfl rfl ?_; rw [HPP.out]; exact fin11 ⟨most2, l2, all2, met2⟩ z2 true HOK.out B2.out.2.2.2 hcap2 HS2.out
  | false =>
    go_wp2_with fail; obtain ⟨W1, hW1⟩ : ∃ x, x = putM4 w1 w.heap.size (.int .i64 (most2 : Int)) (.slice al2 l2.length cap2) (.int .i64 (all2 : Int)) (.int .i64 (met2 : Int)) := ⟨_, rfl⟩; rw [← hW1] at B2 HS2; unfold putM4 at hW1; rw [← hW1]; clear hW1 HR2 B1 c0 c1 c2 c3 f0 f1 f2 f3 d0 d1 d2 d3 k0 k1 k2 k3 j0 j1 j2 j3 j4 j5; refine (KM.out _ B2.out.2.2.2).mono ?_; rintro e w2 ⟨rfl, hb⟩; have B4 := Lib.hid (B2.out.go hb); have HS := Lib.hid (HS2.out.below hb); clear hb B2 HS2 KM; obtain ⟨⟨c0, c1, c2, c3⟩, f0, f1, f2, f3⟩ := cellsM B4.out.1; obtain ⟨⟨d0, d1, d2, d3⟩, k0, k1, k2, k3⟩ := cellsM B4.out.2.2.1
    cases hm : mayR r with
    | false =>
      have HPP := Lib.hid (HF.out (.inr (.inl hm))); clear HN HF hm; go_wp2; refine ret_m3 (putM4_at B4.out.2.2.1 _ _ _ _) Tryz.results14 rfl rfl ?_; rw [HPP.out]; exact fin11 ⟨most2, l2, all2, met2⟩ z2 false HOK.out B4.out.2.2.2 hcap2 HS.out
    | true =>
      by_cases hle : most2 ≤ l2.length
      · have HPP := Lib.hid (HF.out (.inr (.inr hle))); (have q1 : (most2 : Int) ≤ (l2.length : Int) := by omega); clear HN HF hm hle; go_wp2; refine ret_m3 (putM4_at B4.out.2.2.1 _ _ _ _) Tryz.results14 rfl rfl ?_; rw [HPP.out]; exact fin11 ⟨most2, l2, all2, met2⟩ z2 false HOK.out B4.out.2.2.2 hcap2 HS.out
      · have hnn := HN.out (by trivial) hm hle; (have q1 : ¬ (most2 : Int) ≤ (l2.length : Int) := by omega); obtain ⟨e0, he0, we, hs0⟩ := HE.out hm; (have hq : normX r = (nfE e0).rx := by unfold normX; rw [← he0, exX_of we hs0]; rfl); rw [hq] at hnn
        have hmm : all2 = all + 1 ∧ met2 = met := by
          have := hnn.1; simp only [Prod.mk.injEq, MM.mk.injEq] at this; exact ⟨this.1.2.2.1, this.1.2.2.2⟩
        have HPP := Lib.hid (show pp = (⟨most2, l2 ++ [(nfE e0).rx], all2, met2⟩, ((l2.length : Nat) : Int), true) from by rw [hnn.2, hmm.1, hmm.2]); clear HN HF hm hq hnn hmm; go_wp2_with fail; clear c0 c1 c2 c3 f0 f1 f2 f3 d0 d1 d2 d3 k0 k1 k2 k3; have CM := Lib.hid fun x (hx : Below w2.heap.size w2 x) => (cellsM (B4.out.go hx).1).1.2.1; have CX := Lib.hid fun x (hx : Below w2.heap.size w2 x) => cellsR (B4.out.go hx).2.1; have HR := Lib.hid fun x (hx : Below w2.heap.size w2 x) => (show RowAt (fun b => okN okk (w.heap.size + 1 + 1 + 1) b ∧ b < w2.heap.size) x al2 l2 from (HS.out.imp fun b h1 h2 => ⟨h2, h1⟩).below hx); have KO := Lib.hid fun x (hx : Below w2.heap.size w2 x) => Kx.ref8of e0.size e0 (Nat.le_refl _) we (by omega) okk _ x (by rw [he0]; exact HRE.out.below (B4.out.go hx).2.2.2); generalize nfE e0 = e1 at *; clear he0 we hs0 e0; refine wp_region_orderT 5 (fun j => ([SP.emp11 w2.heap.size, SP.eq (.pointer (some ⟨w.heap.size, 1, none⟩)), SP.eq (.slice al2 l2.length cap2), SP.own11 (okN okk (w.heap.size + 1 + 1 + 1)) w2.heap.size l2, SP.eq (.agg #[.int .u8 x0, .int .u64 x1, .int .u64 x2, .int .u64 x3, .int .u64 x4, .slice xl xn xc])] : List SP).getD j SP.free) (fun _ => false) (fun _ _ _ h => by cases h) (by kernel_rfl) (by kernel_rfl) ⟨?_, ?_, ?_, ?_, ?_, trivial⟩ ?_
        · intro a x K out get hb hK; rw [if_pos (wanted_none rfl)]; clear out get; go_simp; exact hK _ _ ⟨_, rfl, hb.size, blk_new x _⟩ (bel_al _ _) (fun h => by cases h)
        · intro a x K out get hb hK; rw [if_pos (wanted_none rfl)]; have o2 : a.tmps[2]? = some (.pointer (some ⟨w.heap.size, 0, none⟩)) := out 2 (by kernel_rfl); clear out get; go_simp; exact hK _ _ rfl (Below.refl _ _) (fun h => by cases h)
        · intro a x K out get hb hK; rw [if_pos (wanted_none rfl)]; obtain ⟨y34, hy34, rfl⟩ := get 1 _ _ rfl rfl (by kernel_rfl); clear out get; have cm := CM.out x hb; go_simp; exact hK _ _ rfl (Below.refl _ _) (fun h => by cases h)
        · intro a x K out get hb hK; rw [if_pos (wanted_none rfl)]; obtain ⟨y33, hy33, ⟨g33, rfl, hg33, hz33⟩⟩ := get 0 _ _ rfl rfl (by kernel_rfl); obtain ⟨y35, hy35, rfl⟩ := get 2 _ _ rfl rfl (by kernel_rfl); clear out get; (have e33 : a.eval (.tmp 33) = .slice (some ⟨g33, 0, none⟩) 0 0 := by simp [Act.eval, hy33]); (have e35 : a.eval (.tmp 35) = .slice al2 l2.length cap2 := by simp [Act.eval, hy35]); refine wp_append_onto (.tmp 33) (.tmp 35) rfl w2.heap.size g33 hg33 hb.size e33 hz33 al2 l2 cap2 e35 (by omega) (HR.out x hb) ?_; intro v' W' ys g1 g2 g3; exact hK _ _ ⟨Nat.le_trans hb.size g3.size, ys, g1, g2.go (keptB g3 _)⟩ g3 (fun h => by cases h)
        · intro a x K out get hb hK; rw [if_pos (wanted_none rfl)]; have o3 : a.tmps[3]? = some (.pointer (some ⟨w.heap.size + 1, 0, none⟩)) := out 3 (by kernel_rfl); clear out get; obtain ⟨c0, c1, c2, c3, c4, c5, -⟩ := CX.out x hb; go_simp; exact hK _ _ rfl (Below.refl _ _) (fun h => by cases h)
        refine ao_finT (isD := fun s => decide (33 ≤ s) && decide (s ≤ 41)) (by kernel_rfl) ?_; intro f x hv hne hb; clear hne; have e37 : f 37 = .agg #[.int .u8 x0, .int .u64 x1, .int .u64 x2, .int .u64 x3, .int .u64 x4, .slice xl xn xc] := hv 4 _ _ (by decide) rfl rfl; have O36 := Lib.hid (show Own11 _ _ _ (f 36) x from hv 3 _ _ (by decide) rfl rfl); have HBX := Lib.hid hb; have KO1 := Lib.hid (KO.out x hb); clear hv hb CM CX HR KO; simp only [frm, List.drop_succ_cons, List.drop_zero]; simp; rw [e37]; generalize f 33 = u33 at *; generalize f 34 = u34 at *; generalize f 35 = u35 at *; generalize f 36 = u36 at *; generalize f 37 = u37 at *; generalize f 38 = u38 at *; generalize f 39 = u39 at *; generalize f 40 = u40 at *; generalize f 41 = u41 at *; clear e37 f; go_wp2_with fail; refine KO1.out.mono ?_; rintro e w3 ⟨v3, rfl, hv3, hb3⟩; obtain ⟨p0, p1, p2, p3, p4, pl, pn, pc, rfl⟩ := cells_re hv3; have hbw := HBX.out.trans (hb3.mono HBX.out.size); have B5 := B4.out.go (hbw.trans (bel_al w3 (.cells #[.int .u8 p0, .int .u64 p1, .int .u64 p2, .int .u64 p3, .int .u64 p4, .slice pl pn pc] 39) |>.mono hbw.size)); obtain ⟨hO0, xs, hO1, hO2⟩ := O36.out.below (hb3.trans (bel_al w3 (.cells #[.int .u8 p0, .int .u64 p1, .int .u64 p2, .int .u64 p3, .int .u64 p4, .slice pl pn pc] 39) |>.mono hb3.size)); have O1 := Lib.hid hO1; obtain ⟨_, _, hOx, _⟩ := O36.out; have HLT := Lib.hid fun g (hg : u36.ownBlock = some g) => hOx.lt g hg; have hRV := row_snoc11 HOK.out hO2 (hv3.below (bel_al w3 (.cells #[.int .u8 p0, .int .u64 p1, .int .u64 p2, .int .u64 p3, .int .u64 p4, .slice pl pn pc] 39))) HBX.out.size hb3.size (B4.out.lt3); have HG := Lib.hid (blk_new w3 (.cells #[.int .u8 p0, .int .u64 p1, .int .u64 p2, .int .u64 p3, .int .u64 p4, .slice pl pn pc] 39)); have HBS := Lib.hid (hbw.trans (bel_al w3 (.cells #[.int .u8 p0, .int .u64 p1, .int .u64 p2, .int .u64 p3, .int .u64 p4, .slice pl pn pc] 39) |>.mono hbw.size)); have B5h := Lib.hid B5; have RVh := Lib.hid hRV; clear hO0 hO1 hO2 hRV B5 hbw hOx O36 KO1 hb3 hv3 HBX; go_wp2_with (at_builtin; refine wpList_append_owns rfl _ _ rfl w2.heap.size _ l2.length xs rfl O1.out 0 _ 1 [.int .u8 p0, .int .u64 p1, .int .u64 p2, .int .u64 p3, .int .u64 p4, .slice pl pn pc] rfl ⟨rfl, .inr ⟨w3.heap.size, 1, _, rfl, Nat.zero_le _, HG.out, Nat.le_refl _, by decide, rfl, rfl⟩⟩ ?_ (by omega) HBS.out.size ?_)
        · intro u hu; simp at hu
          rcases hu with rfl | rfl | rfl | rfl | rfl | rfl <;> rfl
        intro v' w4 g1 g2; have hb4 : Below w2.heap.size w2 w4 := HBS.out.grown g2 HBS.out.size fun g hg => (HLT.out g hg).1; have B5 := B4.out.keep (hb4.mono B4.out.lt3)
        have hRV : RowVals (okN okk (w.heap.size + 1 + 1 + 1)) w4 _ (l2 ++ [e1.rx]) := RVh.out.go ⟨g2.size, fun b h1 h2 => ⟨h2.1, g2.block b h1 fun e => by
          have h3 := HLT.out b e.symm
          rcases h2.2 with h4 | h4 <;> omega⟩⟩
        obtain ⟨al5, cap5, rfl, hcap5, hR5⟩ := row_of_own (by rw [List.length_append]; exact g1) hRV; obtain ⟨n1, hn1⟩ : ∃ n, n = (l2 ++ [e1.rx]).length := ⟨_, rfl⟩; have hlt3 := B4.out.lt3; have HR5 := Lib.hid (row_set11 HOK.out (hR5.imp fun b _ h => Or.elim h id fun h => .inr (by omega)) 1 (.slice al5 n1 cap5)); have HC5 := Lib.hid hcap5; have HN1 := Lib.hid hn1; rw [← hn1]; have QN := Lib.hid (show n1 = l2.length + 1 from by rw [hn1, List.length_append]; rfl); clear g1 g2 hRV hR5 hn1 hcap5 RVh HLT O1 HG B5h; obtain ⟨⟨c0, c1, c2, c3⟩, f0, f1, f2, f3⟩ := cellsM B5.1; have B6 := Lib.hid (show B3 w (w4.setCell ⟨w.heap.size, 1, none⟩ (.slice al5 n1 cap5)) (.cells #[.int .i64 (most2 : Int), .slice al5 n1 cap5, .int .i64 (all2 : Int), .int .i64 (met2 : Int)] 29) _ _ from B5.set 1 (.slice al5 n1 cap5)); clear B5 B4; go_wp2_with fail; obtain ⟨w5, hw5⟩ : ∃ x, x = w4.setCell ⟨w.heap.size, 1, none⟩ (.slice al5 n1 cap5) := ⟨_, rfl⟩; rw [← hw5] at B6 HR5 ⊢; clear hw5 c0 c1 c2 c3 f0 f1 f2 f3 hb4 HBS; obtain ⟨⟨c0, c1, c2, c3⟩, -⟩ := cellsM B6.out.1; obtain ⟨⟨d0, d1, d2, d3⟩, k0, k1, k2, k3⟩ := cellsM B6.out.2.2.1; (have qn1 : (1 : Int) ≤ (n1 : Int) := by have := QN.out; omega); (have qn2 : (n1 : Int) ≤ 20000 := by have := QN.out; omega)
        go_region
        go_wp2; refine ret_m3 (drew_at11 (putM4_at B6.out.2.2.1 _ _ _ _)) Tryz.results14 rfl rfl ?_; rw [HPP.out]; have hfin := fin11 ⟨most2, l2 ++ [e1.rx], all2, met2⟩ ((l2.length : Nat) : Int) true HOK.out B6.out.2.2.2 HC5.out HR5.out; (have hq : (l2.length : Int) = (n1 : Int) - 1 := by have := QN.out; omega); rw [← HN1.out] at hfin; rw [hq] at hfin ⊢; exact find_drew11 hfin
open Go.RowKit
set_option maxRecDepth 100000 in
set_option maxHeartbeats 4000000 in
theorem assert_mis (x : Value) (w : World) : (Instr.typeAssert (.iface 86 x) 20 86 true).run Tryz.prog w = .ok (.tuple #[x, .bool true]) w := by kernel_rfl
set_option maxRecDepth 100000 in
set_option maxHeartbeats 4000000 in
theorem assert_err (x : Value) (w : World) : (Instr.typeAssert (.iface 56 x) 20 56 true).run Tryz.prog w = .ok (.tuple #[x, .bool true]) w := by kernel_rfl
set_option maxRecDepth 100000 in
set_option maxHeartbeats 4000000 in
theorem assert_not (x : Value) (w : World) : (Instr.typeAssert (.iface 56 x) 20 86 true).run Tryz.prog w = .ok (.tuple #[.int .i64 0, .bool false]) w := by kernel_rfl
theorem rep15 : (Array.replicate 15 undef : Array Value) = #[undef, undef, undef, undef, undef, undef, undef, undef, undef, undef, undef, undef, undef, undef, undef] := rfl
set_option maxRecDepth 100000 in
set_option maxHeartbeats 4000000 in
theorem catch_idle (p q : Addr) (w : World) :
    CallsD Tryz.prog 36 #[.pointer (some p), .pointer (some q)] .returning w fun e u' w' => e = .returned (.tuple #[]) ∧ u' = .returning ∧ w' = w := by
  refine callsD_of_wpS Tryz.func36 rfl fun c₀ cs hu => ?_
  apply wpS_seq
  apply wpS_region
  simp [wpOpsS, go_sem, recoverD, hu, Tryz.ntmps36, Exit.thenS]; simp only [rep15, List.setIfInBounds_toArray, List.set_cons_succ, List.set_cons_zero, List.append_toArray, List.cons_append, List.nil_append]; refine wpS_of_wp ?_; go_wp2
  cases c₀
  simp_all [bodyPostS, results, Tryz.results36]
set_option maxRecDepth 100000 in
set_option maxHeartbeats 4000000 in
theorem catch_form (g h : Nat) (k : Nat) (a b : Value) (older : List PanicEntry) (w : World) (ha : w.cell? ⟨g, 0, none⟩ = some a) (hb : w.cell? ⟨h, 0, none⟩ = some b) (fa : w.frozen? ⟨g, 0, none⟩ = false) (fb : w.frozen? ⟨h, 0, none⟩ = false) (hpq' : ¬ g = h) :
    CallsD Tryz.prog 36 #[.pointer (some ⟨g, 0, none⟩), .pointer (some ⟨h, 0, none⟩)] (.panicking ({ v := .iface 86 (.int .i64 k), recovered := false } :: older)) w fun e u' w' =>
      e = .returned (.tuple #[]) ∧ u' = .panicking ({ v := .iface 86 (.int .i64 k), recovered := true } :: older) ∧ w' = (w.setCell ⟨g, 0, none⟩ (.int .i64 k)).setCell ⟨h, 0, none⟩ (.int .i64 2) := by
  refine callsD_of_wpS Tryz.func36 rfl fun c₀ cs hu => ?_; have h1 := assert_mis
  apply wpS_seq
  apply wpS_region
  simp [wpOpsS, go_sem, recoverD, hu, Tryz.ntmps36, Exit.thenS]; simp only [rep15, List.setIfInBounds_toArray, List.set_cons_succ, List.set_cons_zero, List.append_toArray, List.cons_append, List.nil_append]; refine wpS_of_wp ?_; go_wp2; simp [bodyPostS, results, Tryz.results36]
set_option maxRecDepth 100000 in
set_option maxHeartbeats 4000000 in
theorem catch_err (g h : Nat) (k : Nat) (b : Value) (older : List PanicEntry) (w : World) (hb : w.cell? ⟨h, 0, none⟩ = some b) (fb : w.frozen? ⟨h, 0, none⟩ = false) :
    CallsD Tryz.prog 36 #[.pointer (some ⟨g, 0, none⟩), .pointer (some ⟨h, 0, none⟩)] (.panicking ({ v := .iface 56 (.int .i64 k), recovered := false } :: older)) w fun e u' w' =>
      e = .returned (.tuple #[]) ∧ u' = .panicking ({ v := .iface 56 (.int .i64 k), recovered := true } :: older) ∧ w' = w.setCell ⟨h, 0, none⟩ (.int .i64 k) := by
  refine callsD_of_wpS Tryz.func36 rfl fun c₀ cs hu => ?_; have h1 := assert_err; have h2 := assert_not
  apply wpS_seq
  apply wpS_region
  simp [wpOpsS, go_sem, recoverD, hu, Tryz.ntmps36, Exit.thenS]; simp only [rep15, List.setIfInBounds_toArray, List.set_cons_succ, List.set_cons_zero, List.append_toArray, List.cons_append, List.nil_append]; refine wpS_of_wp ?_; go_wp2; simp [bodyPostS, results, Tryz.results36]
end Go.Proofs.YthgghaaddankoaaGreatDoor
