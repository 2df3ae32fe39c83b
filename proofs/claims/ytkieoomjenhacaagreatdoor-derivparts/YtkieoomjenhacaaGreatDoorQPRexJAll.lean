/- Lemmas of mine, merged: QPRexJ, QPRexK, QPRexL, QPRexN, QPNullB, QPDerA, QPDerF, QPDerG, QPNullF, QPNullG, QPNormX, QPDerP, QPRdrA, QPEndE, QPRdrQ. -/
import Derived.Test.YtkieoomjenhacaaGreatDoorQPRexEAll
import Derived.Test.YtkieoomjenhacaaGreatDoorQPSetCAll
import Derived.StillTailTactics
import Derived.IntWalk
import Derived.OwnWalk
import Derived.RegionTactic
import Derived.Deep.RegionHeld3
import Derived.Test.YtkieoomjenhacaaGreatDoorQPRexBAll
import Derived.Test.YtkieoomjenhacaaGreatDoorQPSetEAll
import Derived.Deep.RegionWith
import Derived.Test.YtkieoomjenhacaaGreatDoorQPSetAAll
import Derived.WalkKit
import Derived.WalkSpells
import Derived.WalkLawsBesides
import Derived.Lib.OthersKept
import Derived.Lib.Hide
import Derived.Deep.QuietTactic
import Derived.Laws.DeepStrings4
import Derived.BigQuiet
import Derived.BigRegion
import Derived.Recover
import Derived.Test.YtkieoomjenhacaaGreatDoorRows
import Derived.Laws.OwnMore
import Derived.Laws.MakeOwn
import Derived.Test.YtkieoomjenhacaaGreatDoorQPAnyOrdAll
import Derived.Defers
/- Lemmas of mine. -/
namespace Go.Proofs.YtkieoomjenhacaaGreatDoor
open Go.RowKit
theorem refSame {ok ok' : Nat → Prop} (r t : Rx) (v u : Value) (w : World) (h : ReAt ok w v r) (h' : ReAt ok' w u t) :
    Calls Tryz.prog 14 #[v, u] w fun e w' => e = .returned (.bool (sameR r t)) ∧ Below w.heap.size w w' := refSame_any r.size r t (Nat.le_refl _) v u w h h'
open Go.RowKit
structure But (g B : Nat) (w w' : World) : Prop where
  os : w'.os = w.os
  tape : w'.tape = w.tape
  output : w'.output = w.output
  size : w.heap.size ≤ w'.heap.size
  block : ∀ k, k < B → k ≠ g → w'.heap[k]? = w.heap[k]?
theorem But.refl (g B : Nat) (w : World) : But g B w w := ⟨rfl, rfl, rfl, Nat.le_refl _, fun _ _ _ => rfl⟩
theorem But.trans {g B : Nat} {a b c : World} (h : But g B a b) (k : But g B b c) : But g B a c :=
  ⟨k.os.trans h.os, k.tape.trans h.tape, k.output.trans h.output, Nat.le_trans h.size k.size, fun i hi hg => (k.block i hi hg).trans (h.block i hi hg)⟩
theorem But.mono {g B B' : Nat} {w w' : World} (h : But g B w w') (hB : B' ≤ B) : But g B' w w' := ⟨h.os, h.tape, h.output, h.size, fun k hk hg => h.block k (Nat.lt_of_lt_of_le hk hB) hg⟩
theorem But.of {g B : Nat} {w w' : World} (h : Below B w w') : But g B w w' := ⟨h.os, h.tape, h.output, h.size, fun k hk _ => h.block k hk⟩
theorem But.below {g B : Nat} {w w' : World} (h : But g B w w') (hB : B ≤ g) : Below B w w' := ⟨h.os, h.tape, h.output, h.size, fun k hk => h.block k hk (by omega)⟩
theorem But.set {g B : Nat} {w w' : World} (h : But g B w w') (o : Nat) (v : Value) : But g B w (w'.setCell ⟨g, o, none⟩ v) :=
  h.trans ⟨rfl, rfl, rfl, by simp [World.setCell], fun k _ hg => Below.heap_setCell _ _ _ _ hg⟩
theorem But.kept {g : Nat} {w w' : World} {ok : Nat → Prop} (h : But g w.heap.size w w') (hok : ∀ b, ok b → b ≠ g) : Kept ok ok w w' := ⟨h.size, fun b h1 h2 => ⟨h2, h.block b h1 (hok b h2)⟩⟩
def Left (w : World) (g : Nat) (z : Int) : Prop := w.heap[g]? = some (.cells #[.int .i64 z] 3)
theorem Left.cells {w : World} {g : Nat} {z : Int} (h : Left w g z) : w.cell? ⟨g, 0, none⟩ = some (.int .i64 z) ∧ w.frozen? ⟨g, 0, none⟩ = false := by
  unfold Left at h
  exact ⟨by rw [Lib.cell_of_heap h]; rfl, Lib.frozen_of_heap h 0⟩
theorem Left.lt {w : World} {g : Nat} {z : Int} (h : Left w g z) : g < w.heap.size := (Array.getElem?_eq_some_iff.1 h).1
theorem Left.set {w : World} {g : Nat} {z : Int} (h : Left w g z) (y : Int) : Left (w.setCell ⟨g, 0, none⟩ (.int .i64 y)) g y := by
  unfold Left at h ⊢
  simp [World.setCell, Array.getElem?_modify, h]
def MayPost (q : Bool) (n m g : Nat) (w : World) (e : Ending) (w' : World) : Prop := e = .returned (.bool q) ∧ (∃ z : Int, Left w' g z ∧ (q = true → z = (n : Int) - m)) ∧ But g w.heap.size w w'
def MayAt (ok : Nat → Prop) (g N : Nat) : Prop := ∀ (r : Rx), r.size ≤ N → ∀ (n : Nat) (v : Value) (w : World), n ≤ 2000 → Left w g n → ReAt ok w v r →
    Calls Tryz.prog 45 #[v, .pointer (some ⟨g, 0, none⟩)] w (MayPost (mayN r n) n r.size g w)
def PtrAt (w : World) (gb g : Nat) : Prop := w.heap[gb]? = some (.cells #[.pointer (some ⟨g, 0, none⟩)] 75)
theorem PtrAt.cell {w : World} {gb g : Nat} (h : PtrAt w gb g) : w.cell? ⟨gb, 0, none⟩ = some (.pointer (some ⟨g, 0, none⟩)) := by
  unfold PtrAt at h
  rw [Lib.cell_of_heap h]; rfl
theorem PtrAt.lt {w : World} {gb g : Nat} (h : PtrAt w gb g) : gb < w.heap.size := (Array.getElem?_eq_some_iff.1 h).1
set_option maxHeartbeats 1000000 in
theorem closure_of {ok : Nat → Prop} {g N : Nat} (ih : MayAt ok g N) (r : Rx) (hr : r.size ≤ N) (n gb : Nat) (v : Value) (w : World) (hn : n ≤ 2000) (hL : Left w g n) (hP : PtrAt w gb g) (h : ReAt ok w v r) :
    Calls Tryz.prog 65 #[v, .pointer (some ⟨gb, 0, none⟩)] w (fun e w' => e = .returned (.bool (!mayN r n)) ∧ (∃ z : Int, Left w' g z ∧ (mayN r n = true → z = (n : Int) - r.size)) ∧ But g w.heap.size w w') := by
  have K := Lib.hid fun W (hb : Below w.heap.size w W) => ih r hr n v W hn ((hb.block _ hL.lt).trans hL) (h.below hb)
  obtain ⟨x0, x1, x2, x3, x4, bl, n', cp, rfl⟩ := cells_re h
  have c := hP.cell
  have hlt := hP.lt
  clear ih h hL hP
  generalize mayN r n = q at *
  go_enter Tryz.func65, Tryz.ntmps65
  go_wp2_with fail
  refine (K.out _ ((Below.refl _ w).alloc (Nat.le_refl _) _)).mono ?_
  rintro e w1 ⟨rfl, hz, hb⟩
  have HZ := Lib.hid hz
  have HB : But g w.heap.size w w1 := (But.of ((Below.refl _ w).alloc (Nat.le_refl _) _)).trans (hb.mono (by simp))
  clear hz hb
  go_wp2
  go_ret
  exact ⟨rfl, HZ.out, HB⟩
open Go.RowKit
def idxInv (l : List Rx) (n g gb : Nat) (w : World) (y : Value) (wr : World) : Prop := ∃ i m : Nat, i ≤ l.length ∧ y = .int .i64 i ∧ mayNs (l.take i) n = true ∧ m = n - Rx.sizes (l.take i) ∧ Left wr g m ∧ PtrAt wr gb g ∧ But g w.heap.size w wr
def IdxPost (q : Bool) (n m g : Nat) (w : World) (e : Ending) (w' : World) : Prop := ∃ x : Int, decide (0 ≤ x) = !q ∧ e = .returned (.int .i64 x) ∧ (∃ z : Int, Left w' g z ∧ (q = true → z = (n : Int) - m)) ∧ But g w.heap.size w w'
theorem mayNs_le {l : List Rx} {n : Nat} (h : mayNs l n = true) : Rx.sizes l ≤ n := by
  simp [mayNs] at h; omega
set_option maxHeartbeats 4000000 in
theorem index_of {ok : Nat → Prop} {g N : Nat} (hok : ∀ b, ok b → b ≠ g) (ih : MayAt ok g N) (l : List Rx) (hN : Rx.sizes l ≤ N) (n gb : Nat) (al : Option Addr) (cap : Nat) (w : World) (hn : n ≤ 2000) (hl : l.length < 2199023255552) (hgb : gb ≠ g) (hL : Left w g n) (hP : PtrAt w gb g) (hR : RowAt ok w al l) :
    Calls Tryz.prog 57 #[.slice al l.length cap, .func (.func 65) #[] #[.pointer (some ⟨gb, 0, none⟩)]] w (IdxPost (mayNs l n) n (Rx.sizes l) g w) := by
  have HI := Lib.hid ih
  have HR := Lib.hid hR
  have HL := Lib.hid hL
  have HP := Lib.hid hP
  clear ih hR hL hP
  go_enter Tryz.func57, Tryz.ntmps57
  go_wp2
  go_loopw [8] (fun y wr => idxInv l n g gb w y wr) (fun y _ => l.length - (intOf y).toNat)
  case atStart => exact ⟨0, n, Nat.zero_le _, rfl, by simp [mayNs, goodRs, Rx.sizes], by simp [Rx.sizes], HL.out, HP.out, But.refl _ _ _⟩
  case round =>
    obtain ⟨i, m, hi, rfl, hmay, hm, hleft, hptr, hb⟩ := hrel
    have HM := Lib.hid hm
    have HY := Lib.hid hmay
    have HLe := Lib.hid hleft
    have HPt := Lib.hid hptr
    have hmn : m ≤ 2000 := by omega
    clear hm hmay hleft hptr HL HP
    by_cases hlt : i < l.length
    · obtain ⟨b, off, hab, hblt, hbok, hnode⟩ := HR.out.kidOk hlt
      subst hab
      have hkid := NodeAt.go (hb.kept hok) _ (hb.block b hblt (hok b hbok)) hnode
      have hkz := size_kid hlt
      have HS1 := fun h => mayNs_step (n := n) hlt HY.out h
      have HS2 := fun h => mayNs_stop (n := n) hlt HY.out h
      have htk := sizes_take l i hlt
      rw [← HM.out] at HS1 HS2
      have hsm : mayN l[i] m = true → l[i].size ≤ m := fun h => by simp [mayN] at h; omega
      clear hnode
      generalize l[i] = kid at *
      obtain ⟨k', ⟨ta, tb, tc, td⟩, ks'⟩ := kid
      obtain ⟨al', cap', ⟨c0, c1, c2, c3, c4, c5⟩, hre⟩ := hkid.read
      simp only at c0 c1 c2 c3 c4 c5
      have K := Lib.hid (closure_of HI.out _ (Nat.le_trans hkz hN) m gb _ wr hmn HLe.out HPt.out hre)
      generalize (Rx.node k' ⟨ta, tb, tc, td⟩ ks').size = z at *
      generalize mayN (Rx.node k' ⟨ta, tb, tc, td⟩ ks') m = q at *
      have T1 := Lib.hid HS1
      have T2 := Lib.hid HS2
      have T3 := Lib.hid htk
      have T4 := Lib.hid hsm
      clear hkid hre HS1 HS2 htk hsm
      have q1 : (i : Int) < (l.length : Int) := by omega
      go_wp2_with fail
      refine K.out.mono ?_
      rintro e w1 ⟨rfl, ⟨x, hx, hxz⟩, hb1⟩
      have HX := Lib.hid hx
      have HXZ := Lib.hid hxz
      have HP1 := Lib.hid (show PtrAt w1 gb g from (hb1.block _ HPt.out.lt hgb).trans HPt.out)
      replace hb := hb.trans (hb1.mono hb.size)
      clear hx hxz hb1 c0 c1 c2 c3 c4 c5
      cases q with
      | true =>
        go_wp2
        refine ⟨⟨i + 1, m - z, by omega, by go_num, T1.out trivial, ?_, ?_, HP1.out, hb⟩, by simp [intOf]; omega⟩
        · have := T3.out; have := HM.out; omega
        · have h := HX.out
          rw [HXZ.out trivial] at h
          have := T4.out trivial
          rw [show ((m - z : Nat) : Int) = (m : Int) - z from by omega]
          exact h
      | false =>
        go_wp2
        go_ret
        refine ⟨i, ?_, rfl, ⟨x, HX.out, fun h => ?_⟩, hb⟩
        · rw [T2.out trivial]; simp
        · rw [T2.out trivial] at h; cases h
    · have he : l.take i = l := List.take_of_length_le (by omega)
      rw [he] at HY HM
      go_wp2
      go_ret
      refine ⟨-1, ?_, rfl, ⟨m, HLe.out, fun _ => ?_⟩, hb⟩
      · rw [HY.out]; rfl
      · have := HM.out; have := mayNs_le HY.out; omega
theorem contains_of {ok : Nat → Prop} {g N : Nat} (hok : ∀ b, ok b → b ≠ g) (ih : MayAt ok g N) (l : List Rx) (hN : Rx.sizes l ≤ N) (n gb : Nat) (al : Option Addr) (cap : Nat) (w : World) (hn : n ≤ 2000) (hl : l.length < 2199023255552) (hgb : gb ≠ g) (hL : Left w g n) (hP : PtrAt w gb g) (hR : RowAt ok w al l) :
    Calls Tryz.prog 37 #[.slice al l.length cap, .func (.func 65) #[] #[.pointer (some ⟨gb, 0, none⟩)]] w fun e w' => e = .returned (.bool (!mayNs l n)) ∧ (∃ z : Int, Left w' g z ∧ (mayNs l n = true → z = (n : Int) - Rx.sizes l)) ∧ But g w.heap.size w w' := by
  have K := Lib.hid (index_of hok ih l hN n gb al cap w hn hl hgb hL hP hR)
  clear ih hL hP hR
  generalize mayNs l n = q at *
  go_enter Tryz.func37, Tryz.ntmps37
  go_wp2_with fail
  refine K.out.mono ?_
  rintro e w1 ⟨x, hx, rfl, hz, hb⟩
  have HX := Lib.hid hx
  have HZ := Lib.hid hz
  clear hx hz
  go_wp2
  go_ret
  exact ⟨by rw [← HX.out]; rfl, HZ.out, hb⟩
theorem mayN_node (k : Nat) (s : Ws) (ks : List Rx) (n : Nat) : mayN (.node k s ks) n = (decide (0 < n) && (nodeGood k ks.length (bareB s) && mayNs ks (n - 1))) := by
  unfold mayN mayNs goodR Rx.size
  by_cases h : 0 < n
  · have e : decide (1 + Rx.sizes ks ≤ n) = decide (Rx.sizes ks ≤ n - 1) := by rw [decide_eq_decide]; omega
    rw [e]; simp [h, Bool.and_assoc]
  · have e : decide (1 + Rx.sizes ks ≤ n) = false := by simp; omega
    rw [e]; simp [h]
def mayW (w : World) (g : Nat) (z : Int) (o : Obj) : World := ((w.setCell ⟨g, 0, none⟩ (.int .i64 z)).alloc o).alloc (.cells #[.pointer (some ⟨g, 0, none⟩)] 75)
theorem mayW_facts {w : World} {g : Nat} {y : Int} (h : Left w g y) (z : Int) (o : Obj) :
    Left (mayW w g z o) g z ∧ PtrAt (mayW w g z o) (w.heap.size + 1) g ∧ (mayW w g z o).heap[w.heap.size]? = some o ∧ But g w.heap.size w (mayW w g z o) ∧ (mayW w g z o).heap.size = w.heap.size + 2 := by
  have hg := h.lt
  have hs : (w.setCell ⟨g, 0, none⟩ (.int .i64 z)).heap.size = w.heap.size := by simp [World.setCell]
  refine ⟨(Below.heap_alloc _ _ _ (by rw [World.size_alloc, hs]; omega)).trans ((Below.heap_alloc _ _ _ (by rw [hs]; exact hg)).trans (h.set z)), blk_at _ _ (by rw [World.size_alloc, hs]), (Below.heap_alloc _ _ _ (by rw [World.size_alloc, hs]; omega)).trans (blk_at _ _ hs.symm), ?_, ?_⟩
  · exact ((But.refl g w.heap.size w).set 0 _).trans (But.of (((Below.refl _ _).alloc (by rw [hs]; exact Nat.le_refl _) _).alloc (by rw [World.size_alloc, hs]; omega) _))
  · unfold mayW; rw [World.size_alloc, World.size_alloc, hs]
set_option maxHeartbeats 4000000 in
theorem nodesMay_all {ok : Nat → Prop} {g : Nat} (hok : ∀ b, ok b → b ≠ g) (N : Nat) : MayAt ok g N := by
  induction N with
  | zero => intro r h; have := r.size_pos; omega
  | succ N ih =>
    rintro ⟨k, s, ks⟩ hN n v w hn hL hR
    obtain ⟨hk, hs, al, cap, rfl, hcap, hmax, hrow⟩ := hR
    have hN' : Rx.sizes ks ≤ N := by simp [Rx.size] at hN; omega
    rw [mayN_node]
    have hg := hL.lt
    obtain ⟨c, f⟩ := hL.cells
    have HL := Lib.hid hL
    have KB := Lib.hid fun W => nodeMay_any k s ks.length al cap W hk hmax
    have KC := Lib.hid fun (m gb : Nat) (W : World) (hm : m ≤ 2000) (hgb : gb ≠ g) (hL : Left W g m) (hP : PtrAt W gb g) (hb : But g w.heap.size w W) => contains_of hok ih ks hN' m gb al cap W hm hmax hgb hL hP (hrow.go (hb.kept hok))
    generalize nodeGood k ks.length (bareB s) = q at *
    obtain ⟨sa, sb, sc, sd⟩ := s
    have HSZ := Lib.hid (show (Rx.node k ⟨sa, sb, sc, sd⟩ ks).size = 1 + Rx.sizes ks from by simp [Rx.size])
    clear ih hrow hN hL
    simp only at KB
    go_enter Tryz.func45, Tryz.ntmps45
    by_cases hn0 : n = 0
    · subst hn0
      obtain ⟨m1, m2, m3, m4, m5⟩ := mayW_facts HL.out (-1) (.cells #[.int .u8 k, .int .u64 sa, .int .u64 sb, .int .u64 sc, .int .u64 sd, .slice al ks.length cap] 27)
      unfold mayW at m1 m4
      have M1 := Lib.hid m1
      have M4 := Lib.hid m4
      clear m1 m2 m3 m4 m5
      go_wp2
      go_ret
      exact ⟨by simp, ⟨-1, M1.out, fun h => by simp at h⟩, M4.out⟩
    · have d1 : decide ((n : Int) - 1 < 0) = false := by simp; omega
      have d2 : decide (0 < n) = true := by simp; omega
      have D2 := Lib.hid d2
      obtain ⟨m1, m2, m3, m4, m5⟩ := mayW_facts HL.out ((n : Int) - 1) (.cells #[.int .u8 k, .int .u64 sa, .int .u64 sb, .int .u64 sc, .int .u64 sd, .slice al ks.length cap] 27)
      have M1 := Lib.hid m1
      have M2 := Lib.hid m2
      have M3 := Lib.hid m3
      have M4 := Lib.hid m4
      have M5 := Lib.hid m5
      clear m1 m2 m3 m4 m5 d2
      go_wp2_with fail
      refine (KB.out _).mono ?_
      rintro e w1 ⟨rfl, hb1⟩
      change Below (mayW w g ((n : Int) - 1) (.cells #[.int .u8 k, .int .u64 sa, .int .u64 sb, .int .u64 sc, .int .u64 sd, .slice al ks.length cap] 27)).heap.size (mayW w g ((n : Int) - 1) (.cells #[.int .u8 k, .int .u64 sa, .int .u64 sb, .int .u64 sc, .int .u64 sd, .slice al ks.length cap] 27)) w1 at hb1
      generalize mayW w g ((n : Int) - 1) (.cells #[.int .u8 k, .int .u64 sa, .int .u64 sb, .int .u64 sc, .int .u64 sd, .slice al ks.length cap] 27) = W at *
      have hz := M5.out
      have n1 : Left w1 g ((n : Int) - 1) := (hb1.block _ (by omega)).trans M1.out
      have n2 : PtrAt w1 (w.heap.size + 1) g := (hb1.block _ (by omega)).trans M2.out
      have n3 := (hb1.block w.heap.size (by omega)).trans M3.out
      have n4 : But g w.heap.size w w1 := M4.out.trans (But.of (hb1.mono (by omega)))
      obtain ⟨g0, g1, g2, g3, g4, g5, p0, p1, p2, p3, p4, p5⟩ := cellsR n3
      have N1 := Lib.hid n1
      have N2 := Lib.hid n2
      have N4 := Lib.hid n4
      clear n1 n2 n3 n4 hb1 hz
      cases q with
      | false =>
        go_wp2
        go_ret
        exact ⟨by simp, ⟨(n : Int) - 1, N1.out, fun h => by simp at h⟩, N4.out⟩
      | true =>
        have e1 : ((n - 1 : Nat) : Int) = (n : Int) - 1 := by omega
        have K := Lib.hid (KC.out (n - 1) (w.heap.size + 1) w1 (by omega) (by omega) (by rw [e1]; exact N1.out) N2.out N4.out)
        clear e1
        generalize mayNs ks (n - 1) = q at *
        go_wp2_with fail
        refine K.out.mono ?_
        rintro e w2 ⟨rfl, ⟨z, hz, hzz⟩, hb2⟩
        have HZ := Lib.hid hz
        have HZZ := Lib.hid hzz
        have hb3 : But g w.heap.size w w2 := N4.out.trans (hb2.mono N4.out.size)
        clear hz hzz hb2
        go_wp2
        go_ret
        refine ⟨by rw [D2.out]; simp, ⟨z, HZ.out, fun h => ?_⟩, hb3⟩
        rw [D2.out] at h
        have := HZZ.out (by simpa using h)
        rw [this, HSZ.out]; omega
open Go.RowKit
set_option maxHeartbeats 1000000 in
theorem mayClosure_any {ok : Nat → Prop} (r : Rx) (v : Value) (w : World) (h : ReAt ok w v r) :
    Calls Tryz.prog 44 #[v] w fun e w' => e = .returned (.bool (!mayR r)) ∧ Below w.heap.size w w' := by
  have h' : ReAt (fun b => b < w.heap.size) w v r := h.imp fun b hb _ => hb
  have K := Lib.hid fun W (hb : Below w.heap.size w W) (hL : Left W (w.heap.size + 1) (2000 : Nat)) => nodesMay_all (ok := fun b => b < w.heap.size) (g := w.heap.size + 1) (fun b hb => by omega) r.size r (Nat.le_refl _) 2000 v W (Nat.le_refl _) hL (h'.below hb)
  obtain ⟨x0, x1, x2, x3, x4, bl, n', cp, rfl⟩ := cells_re h
  clear h h'
  have hm : mayR r = mayN r 2000 := rfl
  rw [hm]
  generalize mayN r 2000 = q at *
  go_enter Tryz.func44, Tryz.ntmps44
  go_wp2_with fail
  refine (K.out _ (((Below.refl _ w).alloc (Nat.le_refl _) _).alloc (by simp) _) (blk_at _ _ (by simp))).mono ?_
  rintro e w1 ⟨rfl, -, hb⟩
  have hbw : Below w.heap.size w w1 := (((Below.refl _ w).alloc (Nat.le_refl _) _).alloc (by simp) _).trans ((hb.mono (by simp; omega)).below (by omega))
  clear hb
  go_wp2
  go_ret
  exact ⟨rfl, hbw⟩
def idxInv2 (l : List Rx) (w : World) (y : Value) (wr : World) : Prop := ∃ i : Nat, i ≤ l.length ∧ y = .int .i64 i ∧ (l.take i).all mayR = true ∧ Below w.heap.size w wr
def IdxPost2 (q : Bool) (w : World) (e : Ending) (w' : World) : Prop := ∃ x : Int, decide (0 ≤ x) = !q ∧ e = .returned (.int .i64 x) ∧ Below w.heap.size w w'
set_option maxHeartbeats 4000000 in
theorem index_any {ok : Nat → Prop} (l : List Rx) (al : Option Addr) (cap : Nat) (w : World) (hl : l.length < 2199023255552) (hR : RowAt ok w al l) :
    Calls Tryz.prog 57 #[.slice al l.length cap, .func (.func 44) #[] #[]] w (IdxPost2 (l.all mayR) w) := by
  have HR := Lib.hid hR
  clear hR
  go_enter Tryz.func57, Tryz.ntmps57
  go_wp2
  go_loopw [8] (fun y wr => idxInv2 l w y wr) (fun y _ => l.length - (intOf y).toNat)
  case atStart => exact ⟨0, Nat.zero_le _, rfl, by simp, Below.refl _ _⟩
  case round =>
    obtain ⟨i, hi, rfl, hmay, hb⟩ := hrel
    have HY := Lib.hid hmay
    clear hmay
    by_cases hlt : i < l.length
    · obtain ⟨b, off, hab, hblt, hnode⟩ := HR.out.kid hlt
      subst hab
      have hkid := NodeAt.below hb _ hblt hnode
      have htk : (l.take (i + 1)).all mayR = ((l.take i).all mayR && mayR l[i]) := by
        rw [List.take_succ_eq_append_getElem hlt, List.all_append]; simp
      have hno : mayR l[i] = false → l.all mayR = false := fun h => by
        rw [List.all_eq_false]; exact ⟨l[i], List.getElem_mem hlt, by rw [h]; simp⟩
      clear hnode
      generalize l[i] = kid at *
      obtain ⟨k', ⟨ta, tb, tc, td⟩, ks'⟩ := kid
      obtain ⟨al', cap', ⟨c0, c1, c2, c3, c4, c5⟩, hre⟩ := hkid.read
      simp only at c0 c1 c2 c3 c4 c5
      have K := Lib.hid (mayClosure_any _ _ wr hre)
      generalize mayR (Rx.node k' ⟨ta, tb, tc, td⟩ ks') = q at *
      have T1 := Lib.hid htk
      have T2 := Lib.hid hno
      clear hkid hre htk hno
      have q1 : (i : Int) < (l.length : Int) := by omega
      go_wp2_with fail
      refine K.out.mono ?_
      rintro e w1 ⟨rfl, hb1⟩
      replace hb := hb.trans (hb1.mono hb.size)
      clear hb1 c0 c1 c2 c3 c4 c5
      cases q with
      | true =>
        go_wp2
        exact ⟨⟨i + 1, by omega, by go_num, by rw [T1.out, HY.out]; rfl, hb⟩, by simp [intOf]; omega⟩
      | false =>
        go_wp2
        go_ret
        exact ⟨i, by rw [T2.out trivial]; simp, rfl, hb⟩
    · have he : l.take i = l := List.take_of_length_le (by omega)
      rw [he] at HY
      go_wp2
      go_ret
      exact ⟨-1, by rw [HY.out]; rfl, rfl, hb⟩
theorem contains_any {ok : Nat → Prop} (l : List Rx) (al : Option Addr) (cap : Nat) (w : World) (hl : l.length < 2199023255552) (hR : RowAt ok w al l) :
    Calls Tryz.prog 37 #[.slice al l.length cap, .func (.func 44) #[] #[]] w fun e w' => e = .returned (.bool (!l.all mayR)) ∧ Below w.heap.size w w' := by
  have K := Lib.hid (index_any l al cap w hl hR)
  clear hR
  generalize l.all mayR = q at *
  go_enter Tryz.func37, Tryz.ntmps37
  go_wp2_with fail
  refine K.out.mono ?_
  rintro e w1 ⟨x, hx, rfl, hb⟩
  have HX := Lib.hid hx
  clear hx
  go_wp2
  go_ret
  exact ⟨by rw [← HX.out]; rfl, hb⟩
theorem mayX {ok : Nat → Prop} (l : List Rx) (al : Option Addr) (cap : Nat) (w : World) (hl : l.length < 2199023255552) (hR : RowAt ok w al l) :
    Calls Tryz.prog 25 #[.slice al l.length cap] w fun e w' => e = .returned (.bool (l.all mayR)) ∧ Below w.heap.size w w' := by
  have K := Lib.hid (contains_any l al cap w hl hR)
  clear hR
  generalize l.all mayR = q at *
  go_enter Tryz.func25, Tryz.ntmps25
  go_wp2_with fail
  refine K.out.mono ?_
  rintro e w1 ⟨rfl, hb⟩
  go_wp2
  go_ret
  exact ⟨by simp, hb⟩
theorem row_new {w : World} {ok : Nat → Prop} {x0 x1 x2 x3 x4 x5 : Value} {r : Rx} (h : ReAt ok w (.agg #[x0, x1, x2, x3, x4, x5]) r) : RowAt (fun _ => True) (w.alloc (.cells #[x0, x1, x2, x3, x4, x5] 27)) (some ⟨w.heap.size, 0, none⟩) [r] :=
  row_one (blk_new w _) trivial ((h.below ((Below.refl _ w).alloc (Nat.le_refl _) _)).imp fun _ _ _ => trivial)
open Go.RowKit
noncomputable def exX (r : Rx) : Option Ex := by
  classical
  exact if h : ∃ e : Ex, e.rx = r ∧ e.Wf ∧ e.size ≤ 2000 then some (Classical.choose h) else none
theorem exX_of {e : Ex} (we : e.Wf) (hs : e.size ≤ 2000) : exX e.rx = some e := by
  classical
  have h : ∃ f : Ex, f.rx = e.rx ∧ f.Wf ∧ f.size ≤ 2000 := ⟨e, rfl, we, hs⟩
  unfold exX
  rw [dif_pos h]
  exact congrArg some (Ex.rx_inj _ _ (Classical.choose_spec h).1)
theorem exX_no {r : Rx} (h : mayR r = false) : exX r = none := by
  classical
  unfold exX
  rw [dif_neg]
  rintro ⟨e, rfl, we, hs⟩
  have : mayR e.rx = true := by simp [mayR, mayN, good_ex e we, Ex.size_rx, hs]
  rw [this] at h
  cases h
noncomputable def nulX (r : Rx) : Bool := ((exX r).map Ex.nul).getD false
open Go.RowKit
def SP.vz (B : Nat) : SP := ⟨fun x w => ∃ g, x = .pointer (some ⟨g, 0, none⟩) ∧ B ≤ g ∧ g < w.heap.size ∧ w.heap[g]? = some zR, fun _ _ _ ⟨g, h1, h2, h3, h4⟩ hb => ⟨g, h1, h2, Nat.lt_of_lt_of_le h3 hb.size, (hb.block g h3).trans h4⟩⟩
theorem okN_in2 {ok : Nat → Prop} {n m b : Nat} (h : n ≤ m) (hb : okN (okN ok n) m b) : okN ok n b := by
  rcases hb with hb | hb
  · exact hb
  · exact .inr (Nat.le_trans h hb)
theorem okN_up {ok : Nat → Prop} {n m b : Nat} (h : n ≤ m) (hb : okN ok m b) : okN ok n b := by
  rcases hb with hb | hb
  · exact .inl hb
  · exact .inr (Nat.le_trans h hb)
theorem u8_num (c : UInt8) : ∃ n : Nat, n = c.toNat ∧ n < 256 := ⟨_, rfl, c.toNat_lt⟩
open Go.RowKit
theorem or_none (w : World) : Calls Tryz.prog 69 #[.slice none 0 0] w (NewPost (.node 1 Ws.nil []) w) := or_any (ok := fun _ => True) [] none 0 w (by decide) (.inl rfl)
theorem then_none (w : World) : Calls Tryz.prog 27 #[.slice none 0 0] w (NewPost (.node 2 Ws.nil []) w) := then_any (ok := fun _ => True) [] none 0 w (by decide) (.inl rfl)
set_option maxHeartbeats 1000000 in
theorem dboth_any {ok : Nat → Prop} (k : Nat) (r t : Rx) (v u : Value) (w : World) (hk : k < 256) (h : ReAt ok w v r) (h' : ReAt ok w u t) :
    Calls Tryz.prog 68 #[.int .u8 k, v, u] w (RePost ok (.node k Ws.nil [r, t]) w) := by
  obtain ⟨x0, x1, x2, x3, x4, x5, rfl⟩ := shape_re h
  obtain ⟨y0, y1, y2, y3, y4, y5, rfl⟩ := shape_re h'
  have HR := Lib.hid h
  have HU := Lib.hid h'
  clear h h'
  go_enter Tryz.func68, Tryz.ntmps68
  go_wp2
  have hb : Below w.heap.size w ((((w.alloc (.cells #[x0, x1, x2, x3, x4, x5] 27)).alloc (.cells #[y0, y1, y2, y3, y4, y5] 27)).alloc (.cells #[.int .u8 k, .int .u64 0, .int .u64 0, .int .u64 0, .int .u64 0, .slice (some ⟨w.heap.size + 1 + 1 + 1, 0, none⟩) 2 2] 27)).alloc (.cells #[x0, x1, x2, x3, x4, x5, y0, y1, y2, y3, y4, y5] 27)) :=
    ((((Below.refl _ w).alloc (Nat.le_refl _) _).alloc (by simp) _).alloc (by simp; omega) _).alloc (by simp; omega) _
  refine ret_re ((Below.heap_alloc _ _ _ (by simp)).trans (blk_at _ _ (by simp))) Tryz.results68 rfl rfl ⟨_, rfl, ⟨hk, Ws.nil_ok, _, _, rfl, Nat.le_refl _, by simp, ?_⟩, hb⟩
  exact row_two (blk_at _ _ (by simp)) (.inr (by omega)) ((HR.out.below hb).imp fun _ _ h => .inl h) ((HU.out.below hb).imp fun _ _ h => .inl h)
def DvC (c : UInt8) (e : Ex) : Prop := ∀ (ok : Nat → Prop) (v : Value) (w : World), ReAt ok w v e.rx → Calls Tryz.prog 46 #[v, .int .u8 c.toNat] w (ExPost ok (derE c e) w)
def OsC (c : UInt8) (a b : Ex) : Prop := ∀ (ok : Nat → Prop) (v u : Value) (w : World), ReAt ok w v a.rx → ReAt ok w u b.rx → Calls Tryz.prog 67 #[v, u, .int .u8 c.toNat] w (ExPost ok (derE c (.seq a b)) w)
set_option maxHeartbeats 4000000 in
set_option maxRecDepth 100000 in
theorem dvempty {c : UInt8} (ok : Nat → Prop) (v : Value) (w : World) (h : ReAt ok w v (Ex.rx (Ex.empty))) :
    Calls Tryz.prog 46 #[v, .int .u8 c.toNat] w (ExPost ok (derE c (Ex.empty)) w) := by
  obtain ⟨n, hnc, hn⟩ := u8_num c
  rw [← hnc]
  obtain ⟨ka, ⟨sa, sb, sc, sd⟩, ksa, hsa⟩ := rx_form (Ex.empty)
  have HA := Lib.hid h
  rw [hsa] at h
  obtain ⟨_, hsok, al, cap, rfl, hcap, _, hrow⟩ := h
  simp only at HA ⊢
  simp only [Ex.rx] at hsa
  injection hsa with e1 e2 e3
  subst e1
  subst e3
  show Calls _ _ _ w (ExPost ok Ex.empty w)
  rw [show (([] : List Rx).length) = 0 from rfl]
  have KB := Lib.hid fun W => or_none W
  have B := Lib.hid (Bn1.new w (.cells #[.int .u8 (1 : Nat), .int .u64 sa, .int .u64 sb, .int .u64 sc, .int .u64 sd, .slice al 0 cap] 27))
  clear hrow HA e2 hcap hnc
  go_enter Tryz.func46, Tryz.ntmps46
  go_wp2_with fail
  refine (KB.out _).mono ?_
  rintro x w1 ⟨v1, rfl, hv1, hb1⟩
  obtain ⟨p0, p1, p2, p3, p4, pl, pn, pc, rfl⟩ := cells_re hv1
  have B1 := Lib.hid (B.out.go hb1)
  have HV := Lib.hid (show ReAt (okN ok w.heap.size) w1 (.agg #[.int .u8 p0, .int .u64 p1, .int .u64 p2, .int .u64 p3, .int .u64 p4, .slice pl pn pc]) (Ex.empty).rx from leaf_any _ hv1)
  clear hv1 hb1 B KB
  obtain ⟨c0, c1, c2, c3, c4, c5, f0, f1, f2, f3, f4, f5⟩ := cellsR B1.out.2.1
  go_wp2
  exact ret_ex (e := Ex.empty) B1.out.2.1 HV.out B1.out.2.2 (by omega) Tryz.results46 rfl rfl
set_option maxHeartbeats 4000000 in
set_option maxRecDepth 100000 in
theorem dveps {c : UInt8} (ok : Nat → Prop) (v : Value) (w : World) (h : ReAt ok w v (Ex.rx (Ex.eps))) :
    Calls Tryz.prog 46 #[v, .int .u8 c.toNat] w (ExPost ok (derE c (Ex.eps)) w) := by
  obtain ⟨n, hnc, hn⟩ := u8_num c
  rw [← hnc]
  obtain ⟨ka, ⟨sa, sb, sc, sd⟩, ksa, hsa⟩ := rx_form (Ex.eps)
  have HA := Lib.hid h
  rw [hsa] at h
  obtain ⟨_, hsok, al, cap, rfl, hcap, _, hrow⟩ := h
  simp only at HA ⊢
  simp only [Ex.rx] at hsa
  injection hsa with e1 e2 e3
  subst e1
  subst e3
  show Calls _ _ _ w (ExPost ok Ex.empty w)
  rw [show (([] : List Rx).length) = 0 from rfl]
  have KB := Lib.hid fun W => or_none W
  have B := Lib.hid (Bn1.new w (.cells #[.int .u8 (2 : Nat), .int .u64 sa, .int .u64 sb, .int .u64 sc, .int .u64 sd, .slice al 0 cap] 27))
  clear hrow HA e2 hcap hnc
  go_enter Tryz.func46, Tryz.ntmps46
  go_wp2_with fail
  refine (KB.out _).mono ?_
  rintro x w1 ⟨v1, rfl, hv1, hb1⟩
  obtain ⟨p0, p1, p2, p3, p4, pl, pn, pc, rfl⟩ := cells_re hv1
  have B1 := Lib.hid (B.out.go hb1)
  have HV := Lib.hid (show ReAt (okN ok w.heap.size) w1 (.agg #[.int .u8 p0, .int .u64 p1, .int .u64 p2, .int .u64 p3, .int .u64 p4, .slice pl pn pc]) (Ex.empty).rx from leaf_any _ hv1)
  clear hv1 hb1 B KB
  obtain ⟨c0, c1, c2, c3, c4, c5, f0, f1, f2, f3, f4, f5⟩ := cellsR B1.out.2.1
  go_wp2
  exact ret_ex (e := Ex.empty) B1.out.2.1 HV.out B1.out.2.2 (by omega) Tryz.results46 rfl rfl
set_option maxHeartbeats 4000000 in
set_option maxRecDepth 100000 in
theorem dvcls {c : UInt8} (s : Ws) (ok : Nat → Prop) (v : Value) (w : World) (h : ReAt ok w v (Ex.rx (.cls s))) :
    Calls Tryz.prog 46 #[v, .int .u8 c.toNat] w (ExPost ok (derE c (.cls s)) w) := by
  obtain ⟨n, hnc, hn⟩ := u8_num c
  rw [← hnc]
  obtain ⟨ka, ⟨sa, sb, sc, sd⟩, ksa, hsa⟩ := rx_form (.cls s)
  have HA := Lib.hid h
  rw [hsa] at h
  obtain ⟨_, hsok, al, cap, rfl, hcap, _, hrow⟩ := h
  simp only at HA ⊢
  simp only [Ex.rx] at hsa
  injection hsa with e1 e2 e3
  subst e1
  subst e3
  show Calls _ _ _ w (ExPost ok (if s.has c.toNat = true then .eps else .empty) w)
  subst e2
  have KH := Lib.hid fun W => has_any ⟨sa, sb, sc, sd⟩ n W hsok hn
  rw [show (⟨sa, sb, sc, sd⟩ : Ws).v = .agg #[.int .u64 sa, .int .u64 sb, .int .u64 sc, .int .u64 sd] from rfl] at KH
  rw [show (([] : List Rx).length) = 0 from rfl]
  have B := Lib.hid (Bn1.new w (.cells #[.int .u8 (3 : Nat), .int .u64 sa, .int .u64 sb, .int .u64 sc, .int .u64 sd, .slice al 0 cap] 27))
  rw [← hnc]
  clear hrow HA hcap hnc
  generalize Ws.has ⟨sa, sb, sc, sd⟩ n = q at *
  cases q with
  | true =>
    have KB := Lib.hid fun W => then_none W
    rw [if_pos rfl]
    go_enter Tryz.func46, Tryz.ntmps46
    go_wp2_with fail
    refine (KH.out _).mono ?_
    rintro x w1 ⟨rfl, hb1⟩
    have B1 := Lib.hid (B.out.go hb1)
    clear hb1 B
    obtain ⟨c0, c1, c2, c3, c4, c5, -⟩ := cellsR B1.out.1
    go_wp2_with fail
    refine (KB.out _).mono ?_
    rintro x w2 ⟨v1, rfl, hv1, hb1⟩
    obtain ⟨p0, p1, p2, p3, p4, pl, pn, pc, rfl⟩ := cells_re hv1
    have B2 := Lib.hid (B1.out.go hb1)
    have HV := Lib.hid (show ReAt (okN ok w.heap.size) w2 (.agg #[.int .u8 p0, .int .u64 p1, .int .u64 p2, .int .u64 p3, .int .u64 p4, .slice pl pn pc]) (Ex.eps).rx from leaf_any _ hv1)
    clear hv1 hb1 B1 KB c0 c1 c2 c3 c4 c5
    obtain ⟨c0, c1, c2, c3, c4, c5, f0, f1, f2, f3, f4, f5⟩ := cellsR B2.out.2.1
    go_wp2
    exact ret_ex (e := Ex.eps) B2.out.2.1 HV.out B2.out.2.2 (by omega) Tryz.results46 rfl rfl
  | false =>
    have KB := Lib.hid fun W => or_none W
    rw [if_neg Bool.false_ne_true]
    go_enter Tryz.func46, Tryz.ntmps46
    go_wp2_with fail
    refine (KH.out _).mono ?_
    rintro x w1 ⟨rfl, hb1⟩
    have B1 := Lib.hid (B.out.go hb1)
    clear hb1 B
    obtain ⟨c0, c1, c2, c3, c4, c5, -⟩ := cellsR B1.out.1
    go_wp2_with fail
    refine (KB.out _).mono ?_
    rintro x w2 ⟨v1, rfl, hv1, hb1⟩
    obtain ⟨p0, p1, p2, p3, p4, pl, pn, pc, rfl⟩ := cells_re hv1
    have B2 := Lib.hid (B1.out.go hb1)
    have HV := Lib.hid (show ReAt (okN ok w.heap.size) w2 (.agg #[.int .u8 p0, .int .u64 p1, .int .u64 p2, .int .u64 p3, .int .u64 p4, .slice pl pn pc]) (Ex.empty).rx from leaf_any _ hv1)
    clear hv1 hb1 B1 KB c0 c1 c2 c3 c4 c5
    obtain ⟨c0, c1, c2, c3, c4, c5, f0, f1, f2, f3, f4, f5⟩ := cellsR B2.out.2.1
    go_wp2
    exact ret_ex (e := Ex.empty) B2.out.2.1 HV.out B2.out.2.2 (by omega) Tryz.results46 rfl rfl
set_option maxHeartbeats 4000000 in
set_option maxRecDepth 100000 in
theorem dvstar {c : UInt8} {x0 : Ex} (ih : DvC c x0) (ok : Nat → Prop) (v : Value) (w : World) (h : ReAt ok w v (Ex.rx (.star x0))) :
    Calls Tryz.prog 46 #[v, .int .u8 c.toNat] w (ExPost ok (derE c (.star x0)) w) := by
  obtain ⟨n, hnc, hn⟩ := u8_num c
  unfold DvC at ih
  rw [← hnc] at ih ⊢
  obtain ⟨ka, ⟨sa, sb, sc, sd⟩, ksa, hsa⟩ := rx_form (.star x0)
  have HA := Lib.hid h
  rw [hsa] at h
  obtain ⟨_, hsok, al, cap, rfl, hcap, _, hrow⟩ := h
  simp only at HA ⊢
  simp only [Ex.rx] at hsa
  injection hsa with e1 e2 e3
  subst e1
  subst e3
  have IC := Lib.hid fun W v (h : ReAt ok W v x0.rx) => ih ok v W h
  obtain ⟨bk, off, rfl, hlt, hn0⟩ := hrow.kid (i := 0) (by simp)
  simp only [List.getElem_cons_zero, Nat.zero_mul, Nat.add_zero] at hn0
  obtain ⟨kc, ⟨ca, cb, cc, cd⟩, ksc, hsc⟩ := rx_form x0
  rw [hsc] at hn0
  obtain ⟨al0, cap0, ⟨i0, i1, i2, i3, i4, i5⟩, hrc⟩ := hn0.read
  simp only at i0 i1 i2 i3 i4 i5
  rw [← hsc] at hrc
  have I6 := Lib.hid (show w.cell? ⟨bk, off, none⟩ = some (.int .u8 kc) ∧ w.cell? ⟨bk, off + 1, none⟩ = some (.int .u64 ca) ∧ w.cell? ⟨bk, off + 2, none⟩ = some (.int .u64 cb) ∧ w.cell? ⟨bk, off + 3, none⟩ = some (.int .u64 cc) ∧ w.cell? ⟨bk, off + 4, none⟩ = some (.int .u64 cd) ∧ w.cell? ⟨bk, off + 5, none⟩ = some (.slice al0 ksc.length cap0) from ⟨i0, i1, i2, i3, i4, i5⟩)
  have HRC := Lib.hid hrc
  clear i0 i1 i2 i3 i4 i5 hn0 hsc hrc
  have hcap1 : 1 ≤ cap := by simpa using hcap
  have hlen : [x0.rx].length = 1 := rfl
  rw [hlen, show (((6 : Nat) : Int)) = 6 from rfl]
  rw [hlen, show (((6 : Nat) : Int)) = 6 from rfl] at HA
  have B := Lib.hid (Bn1.new w (.cells #[.int .u8 6, .int .u64 sa, .int .u64 sb, .int .u64 sc, .int .u64 sd, .slice (some ⟨bk, off, none⟩) 1 cap] 27))
  clear hlen hrow hcap e2 hnc
  go_enter Tryz.func46, Tryz.ntmps46
  go_wp2_with fail
  obtain ⟨W, hW⟩ : ∃ x, x = (w.alloc (.cells #[.int .u8 6, .int .u64 sa, .int .u64 sb, .int .u64 sc, .int .u64 sd, .slice (some ⟨bk, off, none⟩) 1 cap] 27)).alloc (.cells #[.int .u8 0, .int .u64 0, .int .u64 0, .int .u64 0, .int .u64 0, .slice none 0 0] 27) := ⟨_, rfl⟩
  rw [← hW] at B ⊢
  clear hW
  have BW := Lib.hid B.out
  have WB := Lib.hid fun x (hx : Below W.heap.size W x) => (B.out.go hx).2.2
  have CX := Lib.hid fun x (hx : Below W.heap.size W x) => (cellsR (B.out.go hx).1).2.2.2.2.2.1
  have CC := Lib.hid fun x (hx : Below W.heap.size W x) => six_keep hlt I6.out (WB.out x hx)
  have HC := Lib.hid fun x (hx : Below W.heap.size W x) => HRC.out.below (WB.out x hx)
  have C6 := Lib.hid fun x (hx : Below W.heap.size W x) => cellsR (BW.out.go hx).1
  have HS := Lib.hid fun x (hx : Below W.heap.size W x) => (HA.out.below (WB.out x hx)).imp (ok' := okN ok w.heap.size) fun _ _ h => Or.inl h
  refine wp_region_orderT 8 (fun i => ([SP.eq (.pointer (some ⟨w.heap.size, 5, none⟩)), SP.eq (.slice (some ⟨bk, off, none⟩) 1 cap), SP.eq (.pointer (some ⟨bk, off, none⟩)), SP.eq (.agg #[.int .u8 kc, .int .u64 ca, .int .u64 cb, .int .u64 cc, .int .u64 cd, .slice al0 ksc.length cap0]), SP.eq (.int .u8 n), SP.ex (okN ok w.heap.size) (derE c x0), SP.eq (.agg #[.int .u8 6, .int .u64 sa, .int .u64 sb, .int .u64 sc, .int .u64 sd, .slice (some ⟨bk, off, none⟩) 1 cap]), SP.ex (okN ok w.heap.size) (.seq (derE c x0) (.star x0))] : List SP).getD i SP.free) (fun _ => false) (fun _ _ _ h => by cases h) (by kernel_rfl) (by kernel_rfl) ⟨?_, ?_, ?_, ?_, ?_, ?_, ?_, ?_, trivial⟩ ?_
  · intro a x K out get hb hK
    rw [if_pos (wanted_none rfl)]
    have o2 : a.tmps[2]? = some (.pointer (some ⟨w.heap.size, 0, none⟩)) := out 2 (by kernel_rfl)
    clear out get
    go_simp
    exact hK _ _ rfl (Below.refl _ _) (fun h => by cases h)
  · intro a x K out get hb hK
    rw [if_pos (wanted_none rfl)]
    obtain ⟨y43, hy43, rfl⟩ := get 0 _ _ rfl rfl (by kernel_rfl)
    clear out get
    have hk5 := CX.out x hb
    go_simp
    exact hK _ _ rfl (Below.refl _ _) (fun h => by cases h)
  · intro a x K out get hb hK
    rw [if_pos (wanted_none rfl)]
    obtain ⟨y44, hy44, rfl⟩ := get 1 _ _ rfl rfl (by kernel_rfl)
    clear out get
    go_simp
    exact hK _ _ rfl (Below.refl _ _) (fun h => by cases h)
  · intro a x K out get hb hK
    rw [if_pos (wanted_none rfl)]
    obtain ⟨y45, hy45, rfl⟩ := get 2 _ _ rfl rfl (by kernel_rfl)
    clear out get
    obtain ⟨c0, c1, c2, c3, c4, c5⟩ := CC.out x hb
    go_simp
    exact hK _ _ rfl (Below.refl _ _) (fun h => by cases h)
  · intro a x K out get hb hK
    rw [if_pos (wanted_none rfl)]
    have o1 : a.tmps[1]? = some (.int .u8 n) := out 1 (by kernel_rfl)
    clear out get
    go_simp
    exact hK _ _ rfl (Below.refl _ _) (fun h => by cases h)
  · intro a x K out get hb hK
    rw [if_pos (wanted_none rfl)]
    obtain ⟨y46, hy46, rfl⟩ := get 3 _ _ rfl rfl (by kernel_rfl)
    obtain ⟨y47, hy47, rfl⟩ := get 4 _ _ rfl rfl (by kernel_rfl)
    clear out get
    go_simp
    refine (IC.out x _ (HC.out x hb)).mono ?_
    rintro e w2 ⟨v2, rfl, hv2, hb2⟩
    exact hK _ _ (ExV.of (e := derE c x0) hv2 fun _ _ h => okN_up (WB.out x hb).size h) hb2 (fun h => by cases h)
  · intro a x K out get hb hK
    rw [if_pos (wanted_none rfl)]
    have o2 : a.tmps[2]? = some (.pointer (some ⟨w.heap.size, 0, none⟩)) := out 2 (by kernel_rfl)
    clear out get
    obtain ⟨c0, c1, c2, c3, c4, c5, -⟩ := C6.out x hb
    go_simp
    exact hK _ _ rfl (Below.refl _ _) (fun h => by cases h)
  · intro a x K out get hb hK
    rw [if_pos (wanted_none rfl)]
    obtain ⟨y48, hy48, ⟨q0, q1, q2, q3, q4, ql, qn, qc, rfl, hr48⟩⟩ := get 5 _ _ rfl rfl (by kernel_rfl)
    obtain ⟨y49, hy49, rfl⟩ := get 6 _ _ rfl rfl (by kernel_rfl)
    clear out get
    go_simp
    refine (dboth_any 4 _ _ _ _ x (by decide) hr48 (HS.out x hb)).mono ?_
    rintro e w2 ⟨v2, rfl, hv2, hb2⟩
    exact hK _ _ (ExV.of (e := .seq (derE c x0) (.star x0)) hv2 fun _ _ h => okN_in2 (WB.out x hb).size h) hb2 (fun h => by cases h)
  refine ao_finT (isD := fun s => decide (43 ≤ s) && decide (s ≤ 50)) (by kernel_rfl) ?_
  intro f x hv hne hb
  clear hne
  obtain ⟨r0, r1, r2, r3, r4, rl, rn, rc, eL, rL⟩ := hv 7 _ _ (by decide) rfl rfl
  have B2 := Lib.hid (BW.out.go hb)
  have HV := Lib.hid rL
  obtain ⟨c0, c1, c2, c3, c4, c5, f0, f1, f2, f3, f4, f5⟩ := cellsR B2.out.2.1
  clear hv hb rL
  simp only [frm, List.drop_succ_cons, List.drop_zero]
  simp
  rw [eL]
  generalize f 43 = u43 at *
  generalize f 44 = u44 at *
  generalize f 45 = u45 at *
  generalize f 46 = u46 at *
  generalize f 47 = u47 at *
  generalize f 48 = u48 at *
  generalize f 49 = u49 at *
  clear eL f
  go_wp2
  exact ret_ex (e := .seq (derE c x0) (.star x0)) B2.out.2.1 HV.out B2.out.2.2 (by omega) Tryz.results46 rfl rfl
open Go.RowKit
set_option maxHeartbeats 4000000 in
set_option maxRecDepth 100000 in
theorem dvalt {c : UInt8} {x0 y : Ex} (ih : DvC c x0) (ih' : DvC c y) (ok : Nat → Prop) (v : Value) (w : World) (h : ReAt ok w v (Ex.rx (.alt x0 y))) :
    Calls Tryz.prog 46 #[v, .int .u8 c.toNat] w (ExPost ok (derE c (.alt x0 y)) w) := by
  obtain ⟨n, hnc, hn⟩ := u8_num c
  unfold DvC at ih ih'
  rw [← hnc] at ih ih' ⊢
  obtain ⟨ka, ⟨sa, sb, sc, sd⟩, ksa, hsa⟩ := rx_form (.alt x0 y)
  have HA := Lib.hid h
  rw [hsa] at h
  obtain ⟨_, hsok, al, cap, rfl, hcap, _, hrow⟩ := h
  simp only at HA ⊢
  simp only [Ex.rx] at hsa
  injection hsa with e1 e2 e3
  subst e1
  subst e3
  have IC := Lib.hid fun W v (h : ReAt ok W v x0.rx) => ih ok v W h
  have ID := Lib.hid fun W v (h : ReAt ok W v y.rx) => ih' ok v W h
  obtain ⟨bk, off, rfl, hlt, hn0⟩ := hrow.kid (i := 0) (by simp)
  simp only [List.getElem_cons_zero, Nat.zero_mul, Nat.add_zero] at hn0
  obtain ⟨kc, ⟨ca, cb, cc, cd⟩, ksc, hsc⟩ := rx_form x0
  rw [hsc] at hn0
  obtain ⟨al0, cap0, ⟨i0, i1, i2, i3, i4, i5⟩, hrc⟩ := hn0.read
  simp only at i0 i1 i2 i3 i4 i5
  rw [← hsc] at hrc
  have I6 := Lib.hid (show w.cell? ⟨bk, off, none⟩ = some (.int .u8 kc) ∧ w.cell? ⟨bk, off + 1, none⟩ = some (.int .u64 ca) ∧ w.cell? ⟨bk, off + 2, none⟩ = some (.int .u64 cb) ∧ w.cell? ⟨bk, off + 3, none⟩ = some (.int .u64 cc) ∧ w.cell? ⟨bk, off + 4, none⟩ = some (.int .u64 cd) ∧ w.cell? ⟨bk, off + 5, none⟩ = some (.slice al0 ksc.length cap0) from ⟨i0, i1, i2, i3, i4, i5⟩)
  have HRC := Lib.hid hrc
  clear i0 i1 i2 i3 i4 i5 hn0 hsc hrc
  obtain ⟨bk', off', e', hlt', hn1⟩ := hrow.kid (i := 1) (by simp)
  simp at e'
  obtain ⟨rfl, rfl⟩ := e'
  simp only [List.getElem_cons_zero, List.getElem_cons_succ, Nat.one_mul] at hn1
  obtain ⟨kd, ⟨da, db, dc, dd⟩, ksd, hsd⟩ := rx_form y
  rw [hsd] at hn1
  obtain ⟨al1, cap1, ⟨j0, j1, j2, j3, j4, j5⟩, hrd⟩ := hn1.read
  simp only at j0 j1 j2 j3 j4 j5
  rw [← hsd] at hrd
  have J6 := Lib.hid (show w.cell? ⟨bk, off + 6, none⟩ = some (.int .u8 kd) ∧ w.cell? ⟨bk, off + 6 + 1, none⟩ = some (.int .u64 da) ∧ w.cell? ⟨bk, off + 6 + 2, none⟩ = some (.int .u64 db) ∧ w.cell? ⟨bk, off + 6 + 3, none⟩ = some (.int .u64 dc) ∧ w.cell? ⟨bk, off + 6 + 4, none⟩ = some (.int .u64 dd) ∧ w.cell? ⟨bk, off + 6 + 5, none⟩ = some (.slice al1 ksd.length cap1) from ⟨j0, j1, j2, j3, j4, j5⟩)
  have HRD := Lib.hid hrd
  clear j0 j1 j2 j3 j4 j5 hn1 hsd hrd
  have hcap2 : 2 ≤ cap := by simpa using hcap
  have hlen : [x0.rx, y.rx].length = 2 := rfl
  rw [hlen, show (((5 : Nat) : Int)) = 5 from rfl]
  rw [hlen, show (((5 : Nat) : Int)) = 5 from rfl] at HA
  have B := Lib.hid (Bn1.new w (.cells #[.int .u8 5, .int .u64 sa, .int .u64 sb, .int .u64 sc, .int .u64 sd, .slice (some ⟨bk, off, none⟩) 2 cap] 27))
  clear hlen hrow hcap e2 hnc
  go_enter Tryz.func46, Tryz.ntmps46
  go_wp2_with fail
  obtain ⟨W, hW⟩ : ∃ x, x = (w.alloc (.cells #[.int .u8 5, .int .u64 sa, .int .u64 sb, .int .u64 sc, .int .u64 sd, .slice (some ⟨bk, off, none⟩) 2 cap] 27)).alloc (.cells #[.int .u8 0, .int .u64 0, .int .u64 0, .int .u64 0, .int .u64 0, .slice none 0 0] 27) := ⟨_, rfl⟩
  rw [← hW] at B ⊢
  clear hW
  have BW := Lib.hid B.out
  have WB := Lib.hid fun x (hx : Below W.heap.size W x) => (B.out.go hx).2.2
  have CX := Lib.hid fun x (hx : Below W.heap.size W x) => (cellsR (B.out.go hx).1).2.2.2.2.2.1
  have CC := Lib.hid fun x (hx : Below W.heap.size W x) => six_keep hlt I6.out (WB.out x hx)
  have HC := Lib.hid fun x (hx : Below W.heap.size W x) => HRC.out.below (WB.out x hx)
  have CD := Lib.hid fun x (hx : Below W.heap.size W x) => six_keep hlt J6.out (WB.out x hx)
  have HD := Lib.hid fun x (hx : Below W.heap.size W x) => HRD.out.below (WB.out x hx)
  refine wp_region_orderT 13 (fun i => ([SP.eq (.pointer (some ⟨w.heap.size, 5, none⟩)), SP.eq (.slice (some ⟨bk, off, none⟩) 2 cap), SP.eq (.pointer (some ⟨bk, off, none⟩)), SP.eq (.agg #[.int .u8 kc, .int .u64 ca, .int .u64 cb, .int .u64 cc, .int .u64 cd, .slice al0 ksc.length cap0]), SP.eq (.int .u8 n), SP.ex (okN ok w.heap.size) (derE c x0), SP.eq (.pointer (some ⟨w.heap.size, 5, none⟩)), SP.eq (.slice (some ⟨bk, off, none⟩) 2 cap), SP.eq (.pointer (some ⟨bk, off + 6, none⟩)), SP.eq (.agg #[.int .u8 kd, .int .u64 da, .int .u64 db, .int .u64 dc, .int .u64 dd, .slice al1 ksd.length cap1]), SP.eq (.int .u8 n), SP.ex (okN ok w.heap.size) (derE c y), SP.ex (okN ok w.heap.size) (.alt (derE c x0) (derE c y))] : List SP).getD i SP.free) (fun _ => false) (fun _ _ _ h => by cases h) (by kernel_rfl) (by kernel_rfl) ⟨?_, ?_, ?_, ?_, ?_, ?_, ?_, ?_, ?_, ?_, ?_, ?_, ?_, trivial⟩ ?_
  · intro a x K out get hb hK
    rw [if_pos (wanted_none rfl)]
    have o2 : a.tmps[2]? = some (.pointer (some ⟨w.heap.size, 0, none⟩)) := out 2 (by kernel_rfl)
    clear out get
    go_simp
    exact hK _ _ rfl (Below.refl _ _) (fun h => by cases h)
  · intro a x K out get hb hK
    rw [if_pos (wanted_none rfl)]
    obtain ⟨y28, hy28, rfl⟩ := get 0 _ _ rfl rfl (by kernel_rfl)
    clear out get
    have hk5 := CX.out x hb
    go_simp
    exact hK _ _ rfl (Below.refl _ _) (fun h => by cases h)
  · intro a x K out get hb hK
    rw [if_pos (wanted_none rfl)]
    obtain ⟨y29, hy29, rfl⟩ := get 1 _ _ rfl rfl (by kernel_rfl)
    clear out get
    go_simp
    exact hK _ _ rfl (Below.refl _ _) (fun h => by cases h)
  · intro a x K out get hb hK
    rw [if_pos (wanted_none rfl)]
    obtain ⟨y30, hy30, rfl⟩ := get 2 _ _ rfl rfl (by kernel_rfl)
    clear out get
    obtain ⟨c0, c1, c2, c3, c4, c5⟩ := CC.out x hb
    go_simp
    exact hK _ _ rfl (Below.refl _ _) (fun h => by cases h)
  · intro a x K out get hb hK
    rw [if_pos (wanted_none rfl)]
    have o1 : a.tmps[1]? = some (.int .u8 n) := out 1 (by kernel_rfl)
    clear out get
    go_simp
    exact hK _ _ rfl (Below.refl _ _) (fun h => by cases h)
  · intro a x K out get hb hK
    rw [if_pos (wanted_none rfl)]
    obtain ⟨y31, hy31, rfl⟩ := get 3 _ _ rfl rfl (by kernel_rfl)
    obtain ⟨y32, hy32, rfl⟩ := get 4 _ _ rfl rfl (by kernel_rfl)
    clear out get
    go_simp
    refine (IC.out x _ (HC.out x hb)).mono ?_
    rintro e w2 ⟨v2, rfl, hv2, hb2⟩
    exact hK _ _ (ExV.of (e := derE c x0) hv2 fun _ _ h => okN_up (WB.out x hb).size h) hb2 (fun h => by cases h)
  · intro a x K out get hb hK
    rw [if_pos (wanted_none rfl)]
    have o2 : a.tmps[2]? = some (.pointer (some ⟨w.heap.size, 0, none⟩)) := out 2 (by kernel_rfl)
    clear out get
    go_simp
    exact hK _ _ rfl (Below.refl _ _) (fun h => by cases h)
  · intro a x K out get hb hK
    rw [if_pos (wanted_none rfl)]
    obtain ⟨y34, hy34, rfl⟩ := get 6 _ _ rfl rfl (by kernel_rfl)
    clear out get
    have hk5 := CX.out x hb
    go_simp
    exact hK _ _ rfl (Below.refl _ _) (fun h => by cases h)
  · intro a x K out get hb hK
    rw [if_pos (wanted_none rfl)]
    obtain ⟨y35, hy35, rfl⟩ := get 7 _ _ rfl rfl (by kernel_rfl)
    clear out get
    go_simp
    exact hK _ _ rfl (Below.refl _ _) (fun h => by cases h)
  · intro a x K out get hb hK
    rw [if_pos (wanted_none rfl)]
    obtain ⟨y36, hy36, rfl⟩ := get 8 _ _ rfl rfl (by kernel_rfl)
    clear out get
    obtain ⟨c0, c1, c2, c3, c4, c5⟩ := CD.out x hb
    go_simp
    exact hK _ _ rfl (Below.refl _ _) (fun h => by cases h)
  · intro a x K out get hb hK
    rw [if_pos (wanted_none rfl)]
    have o1 : a.tmps[1]? = some (.int .u8 n) := out 1 (by kernel_rfl)
    clear out get
    go_simp
    exact hK _ _ rfl (Below.refl _ _) (fun h => by cases h)
  · intro a x K out get hb hK
    rw [if_pos (wanted_none rfl)]
    obtain ⟨y37, hy37, rfl⟩ := get 9 _ _ rfl rfl (by kernel_rfl)
    obtain ⟨y38, hy38, rfl⟩ := get 10 _ _ rfl rfl (by kernel_rfl)
    clear out get
    go_simp
    refine (ID.out x _ (HD.out x hb)).mono ?_
    rintro e w2 ⟨v2, rfl, hv2, hb2⟩
    exact hK _ _ (ExV.of (e := derE c y) hv2 fun _ _ h => okN_up (WB.out x hb).size h) hb2 (fun h => by cases h)
  · intro a x K out get hb hK
    rw [if_pos (wanted_none rfl)]
    obtain ⟨y33, hy33, ⟨q0, q1, q2, q3, q4, ql, qn, qc, rfl, hr33⟩⟩ := get 5 _ _ rfl rfl (by kernel_rfl)
    obtain ⟨y39, hy39, ⟨s0, s1, s2, s3, s4, sl, sn, sc, rfl, hr39⟩⟩ := get 11 _ _ rfl rfl (by kernel_rfl)
    clear out get
    go_simp
    refine (dboth_any 5 _ _ _ _ x (by decide) hr33 hr39).mono ?_
    rintro e w2 ⟨v2, rfl, hv2, hb2⟩
    exact hK _ _ (ExV.of (e := .alt (derE c x0) (derE c y)) hv2 fun _ _ h => okN_in2 (WB.out x hb).size h) hb2 (fun h => by cases h)
  refine ao_finT (isD := fun s => decide (28 ≤ s) && decide (s ≤ 40)) (by kernel_rfl) ?_
  intro f x hv hne hb
  clear hne
  obtain ⟨r0, r1, r2, r3, r4, rl, rn, rc, eL, rL⟩ := hv 12 _ _ (by decide) rfl rfl
  have B2 := Lib.hid (BW.out.go hb)
  have HV := Lib.hid rL
  obtain ⟨c0, c1, c2, c3, c4, c5, f0, f1, f2, f3, f4, f5⟩ := cellsR B2.out.2.1
  clear hv hb rL
  simp only [frm, List.drop_succ_cons, List.drop_zero]
  simp
  rw [eL]
  generalize f 28 = u28 at *
  generalize f 29 = u29 at *
  generalize f 30 = u30 at *
  generalize f 31 = u31 at *
  generalize f 32 = u32 at *
  generalize f 33 = u33 at *
  generalize f 34 = u34 at *
  generalize f 35 = u35 at *
  generalize f 36 = u36 at *
  generalize f 37 = u37 at *
  generalize f 38 = u38 at *
  generalize f 39 = u39 at *
  clear eL f
  go_wp2
  exact ret_ex (e := .alt (derE c x0) (derE c y)) B2.out.2.1 HV.out B2.out.2.2 (by omega) Tryz.results46 rfl rfl
set_option maxHeartbeats 4000000 in
set_option maxRecDepth 100000 in
theorem dvseq {c : UInt8} {x0 y : Ex} (ih : OsC c x0 y) (ok : Nat → Prop) (v : Value) (w : World) (h : ReAt ok w v (Ex.rx (.seq x0 y))) :
    Calls Tryz.prog 46 #[v, .int .u8 c.toNat] w (ExPost ok (derE c (.seq x0 y)) w) := by
  obtain ⟨n, hnc, hn⟩ := u8_num c
  unfold OsC at ih
  rw [← hnc] at ih ⊢
  obtain ⟨ka, ⟨sa, sb, sc, sd⟩, ksa, hsa⟩ := rx_form (.seq x0 y)
  have HA := Lib.hid h
  rw [hsa] at h
  obtain ⟨_, hsok, al, cap, rfl, hcap, _, hrow⟩ := h
  simp only at HA ⊢
  simp only [Ex.rx] at hsa
  injection hsa with e1 e2 e3
  subst e1
  subst e3
  have IS := Lib.hid fun W v u (h : ReAt ok W v x0.rx) (h' : ReAt ok W u y.rx) => ih ok v u W h h'
  obtain ⟨bk, off, rfl, hlt, hn0⟩ := hrow.kid (i := 0) (by simp)
  simp only [List.getElem_cons_zero, Nat.zero_mul, Nat.add_zero] at hn0
  obtain ⟨kc, ⟨ca, cb, cc, cd⟩, ksc, hsc⟩ := rx_form x0
  rw [hsc] at hn0
  obtain ⟨al0, cap0, ⟨i0, i1, i2, i3, i4, i5⟩, hrc⟩ := hn0.read
  simp only at i0 i1 i2 i3 i4 i5
  rw [← hsc] at hrc
  have I6 := Lib.hid (show w.cell? ⟨bk, off, none⟩ = some (.int .u8 kc) ∧ w.cell? ⟨bk, off + 1, none⟩ = some (.int .u64 ca) ∧ w.cell? ⟨bk, off + 2, none⟩ = some (.int .u64 cb) ∧ w.cell? ⟨bk, off + 3, none⟩ = some (.int .u64 cc) ∧ w.cell? ⟨bk, off + 4, none⟩ = some (.int .u64 cd) ∧ w.cell? ⟨bk, off + 5, none⟩ = some (.slice al0 ksc.length cap0) from ⟨i0, i1, i2, i3, i4, i5⟩)
  have HRC := Lib.hid hrc
  clear i0 i1 i2 i3 i4 i5 hn0 hsc hrc
  obtain ⟨bk', off', e', hlt', hn1⟩ := hrow.kid (i := 1) (by simp)
  simp at e'
  obtain ⟨rfl, rfl⟩ := e'
  simp only [List.getElem_cons_zero, List.getElem_cons_succ, Nat.one_mul] at hn1
  obtain ⟨kd, ⟨da, db, dc, dd⟩, ksd, hsd⟩ := rx_form y
  rw [hsd] at hn1
  obtain ⟨al1, cap1, ⟨j0, j1, j2, j3, j4, j5⟩, hrd⟩ := hn1.read
  simp only at j0 j1 j2 j3 j4 j5
  rw [← hsd] at hrd
  have J6 := Lib.hid (show w.cell? ⟨bk, off + 6, none⟩ = some (.int .u8 kd) ∧ w.cell? ⟨bk, off + 6 + 1, none⟩ = some (.int .u64 da) ∧ w.cell? ⟨bk, off + 6 + 2, none⟩ = some (.int .u64 db) ∧ w.cell? ⟨bk, off + 6 + 3, none⟩ = some (.int .u64 dc) ∧ w.cell? ⟨bk, off + 6 + 4, none⟩ = some (.int .u64 dd) ∧ w.cell? ⟨bk, off + 6 + 5, none⟩ = some (.slice al1 ksd.length cap1) from ⟨j0, j1, j2, j3, j4, j5⟩)
  have HRD := Lib.hid hrd
  clear j0 j1 j2 j3 j4 j5 hn1 hsd hrd
  have hcap2 : 2 ≤ cap := by simpa using hcap
  have hlen : [x0.rx, y.rx].length = 2 := rfl
  rw [hlen, show (((4 : Nat) : Int)) = 4 from rfl]
  rw [hlen, show (((4 : Nat) : Int)) = 4 from rfl] at HA
  have B := Lib.hid (Bn1.new w (.cells #[.int .u8 4, .int .u64 sa, .int .u64 sb, .int .u64 sc, .int .u64 sd, .slice (some ⟨bk, off, none⟩) 2 cap] 27))
  clear hlen hrow hcap e2 hnc
  go_enter Tryz.func46, Tryz.ntmps46
  go_wp2_with fail
  obtain ⟨W, hW⟩ : ∃ x, x = (w.alloc (.cells #[.int .u8 4, .int .u64 sa, .int .u64 sb, .int .u64 sc, .int .u64 sd, .slice (some ⟨bk, off, none⟩) 2 cap] 27)).alloc (.cells #[.int .u8 0, .int .u64 0, .int .u64 0, .int .u64 0, .int .u64 0, .slice none 0 0] 27) := ⟨_, rfl⟩
  rw [← hW] at B ⊢
  clear hW
  have BW := Lib.hid B.out
  have WB := Lib.hid fun x (hx : Below W.heap.size W x) => (B.out.go hx).2.2
  have CX := Lib.hid fun x (hx : Below W.heap.size W x) => (cellsR (B.out.go hx).1).2.2.2.2.2.1
  have CC := Lib.hid fun x (hx : Below W.heap.size W x) => six_keep hlt I6.out (WB.out x hx)
  have HC := Lib.hid fun x (hx : Below W.heap.size W x) => HRC.out.below (WB.out x hx)
  have CD := Lib.hid fun x (hx : Below W.heap.size W x) => six_keep hlt J6.out (WB.out x hx)
  have HD := Lib.hid fun x (hx : Below W.heap.size W x) => HRD.out.below (WB.out x hx)
  refine wp_region_orderT 10 (fun i => ([SP.eq (.pointer (some ⟨w.heap.size, 5, none⟩)), SP.eq (.slice (some ⟨bk, off, none⟩) 2 cap), SP.eq (.pointer (some ⟨bk, off, none⟩)), SP.eq (.agg #[.int .u8 kc, .int .u64 ca, .int .u64 cb, .int .u64 cc, .int .u64 cd, .slice al0 ksc.length cap0]), SP.eq (.pointer (some ⟨w.heap.size, 5, none⟩)), SP.eq (.slice (some ⟨bk, off, none⟩) 2 cap), SP.eq (.pointer (some ⟨bk, off + 6, none⟩)), SP.eq (.agg #[.int .u8 kd, .int .u64 da, .int .u64 db, .int .u64 dc, .int .u64 dd, .slice al1 ksd.length cap1]), SP.eq (.int .u8 n), SP.ex (okN ok w.heap.size) (derE c (.seq x0 y))] : List SP).getD i SP.free) (fun _ => false) (fun _ _ _ h => by cases h) (by kernel_rfl) (by kernel_rfl) ⟨?_, ?_, ?_, ?_, ?_, ?_, ?_, ?_, ?_, ?_, trivial⟩ ?_
  · intro a x K out get hb hK
    rw [if_pos (wanted_none rfl)]
    have o2 : a.tmps[2]? = some (.pointer (some ⟨w.heap.size, 0, none⟩)) := out 2 (by kernel_rfl)
    clear out get
    go_simp
    exact hK _ _ rfl (Below.refl _ _) (fun h => by cases h)
  · intro a x K out get hb hK
    rw [if_pos (wanted_none rfl)]
    obtain ⟨y16, hy16, rfl⟩ := get 0 _ _ rfl rfl (by kernel_rfl)
    clear out get
    have hk5 := CX.out x hb
    go_simp
    exact hK _ _ rfl (Below.refl _ _) (fun h => by cases h)
  · intro a x K out get hb hK
    rw [if_pos (wanted_none rfl)]
    obtain ⟨y17, hy17, rfl⟩ := get 1 _ _ rfl rfl (by kernel_rfl)
    clear out get
    go_simp
    exact hK _ _ rfl (Below.refl _ _) (fun h => by cases h)
  · intro a x K out get hb hK
    rw [if_pos (wanted_none rfl)]
    obtain ⟨y18, hy18, rfl⟩ := get 2 _ _ rfl rfl (by kernel_rfl)
    clear out get
    obtain ⟨c0, c1, c2, c3, c4, c5⟩ := CC.out x hb
    go_simp
    exact hK _ _ rfl (Below.refl _ _) (fun h => by cases h)
  · intro a x K out get hb hK
    rw [if_pos (wanted_none rfl)]
    have o2 : a.tmps[2]? = some (.pointer (some ⟨w.heap.size, 0, none⟩)) := out 2 (by kernel_rfl)
    clear out get
    go_simp
    exact hK _ _ rfl (Below.refl _ _) (fun h => by cases h)
  · intro a x K out get hb hK
    rw [if_pos (wanted_none rfl)]
    obtain ⟨y20, hy20, rfl⟩ := get 4 _ _ rfl rfl (by kernel_rfl)
    clear out get
    have hk5 := CX.out x hb
    go_simp
    exact hK _ _ rfl (Below.refl _ _) (fun h => by cases h)
  · intro a x K out get hb hK
    rw [if_pos (wanted_none rfl)]
    obtain ⟨y21, hy21, rfl⟩ := get 5 _ _ rfl rfl (by kernel_rfl)
    clear out get
    go_simp
    exact hK _ _ rfl (Below.refl _ _) (fun h => by cases h)
  · intro a x K out get hb hK
    rw [if_pos (wanted_none rfl)]
    obtain ⟨y22, hy22, rfl⟩ := get 6 _ _ rfl rfl (by kernel_rfl)
    clear out get
    obtain ⟨c0, c1, c2, c3, c4, c5⟩ := CD.out x hb
    go_simp
    exact hK _ _ rfl (Below.refl _ _) (fun h => by cases h)
  · intro a x K out get hb hK
    rw [if_pos (wanted_none rfl)]
    have o1 : a.tmps[1]? = some (.int .u8 n) := out 1 (by kernel_rfl)
    clear out get
    go_simp
    exact hK _ _ rfl (Below.refl _ _) (fun h => by cases h)
  · intro a x K out get hb hK
    rw [if_pos (wanted_none rfl)]
    obtain ⟨y19, hy19, rfl⟩ := get 3 _ _ rfl rfl (by kernel_rfl)
    obtain ⟨y23, hy23, rfl⟩ := get 7 _ _ rfl rfl (by kernel_rfl)
    obtain ⟨y24, hy24, rfl⟩ := get 8 _ _ rfl rfl (by kernel_rfl)
    clear out get
    go_simp
    refine (IS.out x _ _ (HC.out x hb) (HD.out x hb)).mono ?_
    rintro e w2 ⟨v2, rfl, hv2, hb2⟩
    exact hK _ _ (ExV.of (e := derE c (.seq x0 y)) hv2 fun _ _ h => okN_up (WB.out x hb).size h) hb2 (fun h => by cases h)
  refine ao_finT (isD := fun s => decide (16 ≤ s) && decide (s ≤ 25)) (by kernel_rfl) ?_
  intro f x hv hne hb
  clear hne
  obtain ⟨r0, r1, r2, r3, r4, rl, rn, rc, eL, rL⟩ := hv 9 _ _ (by decide) rfl rfl
  have B2 := Lib.hid (BW.out.go hb)
  have HV := Lib.hid rL
  obtain ⟨c0, c1, c2, c3, c4, c5, f0, f1, f2, f3, f4, f5⟩ := cellsR B2.out.2.1
  clear hv hb rL
  simp only [frm, List.drop_succ_cons, List.drop_zero]
  simp
  rw [eL]
  generalize f 16 = u16 at *
  generalize f 17 = u17 at *
  generalize f 18 = u18 at *
  generalize f 19 = u19 at *
  generalize f 20 = u20 at *
  generalize f 21 = u21 at *
  generalize f 22 = u22 at *
  generalize f 23 = u23 at *
  generalize f 24 = u24 at *
  clear eL f
  go_wp2
  exact ret_ex (e := derE c (.seq x0 y)) B2.out.2.1 HV.out B2.out.2.2 (by omega) Tryz.results46 rfl rfl
open Go.RowKit
def Bg (w : World) (g : Nat) (n : Bool) (s : Ws) : Prop := w.heap[g]? = some (.cells #[.bool n, .int .u64 s.a, .int .u64 s.b, .int .u64 s.c, .int .u64 s.d] 64 (0, 0))
def bgV (n : Bool) (s : Ws) : Value := .agg #[.bool n, .int .u64 s.a, .int .u64 s.b, .int .u64 s.c, .int .u64 s.d]
theorem Bg.lt {w : World} {g : Nat} {n : Bool} {s : Ws} (h : Bg w g n s) : g < w.heap.size := (Array.getElem?_eq_some_iff.1 h).1
theorem Bg.cells {w : World} {g : Nat} {n : Bool} {s : Ws} (h : Bg w g n s) : w.cell? ⟨g, 0, none⟩ = some (.bool n) ∧ w.cell? ⟨g, 1, none⟩ = some (.int .u64 s.a) ∧ w.cell? ⟨g, 2, none⟩ = some (.int .u64 s.b) ∧ w.cell? ⟨g, 3, none⟩ = some (.int .u64 s.c) ∧ w.cell? ⟨g, 4, none⟩ = some (.int .u64 s.d) := by
  unfold Bg at h
  refine ⟨?_, ?_, ?_, ?_, ?_⟩ <;> (rw [Lib.cell_of_heap h]; rfl)
theorem Bg.frozen {w : World} {g : Nat} {n : Bool} {s : Ws} (h : Bg w g n s) (i : Nat) : w.frozen? ⟨g, i, none⟩ = false := Lib.frozen_of_heap h i
theorem Bg.below {w w' : World} {g B : Nat} {n : Bool} {s : Ws} (h : Bg w g n s) (hb : Below B w w') (hg : g < B) : Bg w' g n s := (hb.block g hg).trans h
theorem Bg.new {W : World} {g : Nat} (n : Bool) (a b c d : Nat) (hg : g = W.heap.size) : Bg (W.alloc (.cells #[.bool n, .int .u64 a, .int .u64 b, .int .u64 c, .int .u64 d] 64)) g n ⟨a, b, c, d⟩ := by
  subst hg
  show (W.heap.push _)[W.heap.size]? = _
  simp
theorem Bg.zero {W : World} {g : Nat} (hg : g = W.heap.size) : Bg (W.alloc (.cells #[.bool false, .int .u64 0, .int .u64 0, .int .u64 0, .int .u64 0] 64)) g false Ws.nil := Bg.new false 0 0 0 0 hg
theorem Bg.alloc {w : World} {g : Nat} {n : Bool} {s : Ws} (h : Bg w g n s) (o : Obj) : Bg (w.alloc o) g n s := by
  have := h.lt
  unfold Bg at h ⊢
  rw [← h]
  exact Below.heap_alloc w o g this
theorem Bg.drew {w : World} {g : Nat} {n : Bool} {s : Ws} (h : Bg w g n s) : Bg w.drew g n s := h
theorem Bg.far {w : World} {g : Nat} {n : Bool} {s : Ws} (h : Bg w g n s) {p : Addr} (hp : g ≠ p.block) (v : Value) : Bg (w.setCell p v) g n s := by
  unfold Bg at h ⊢
  rw [← h]
  simp [World.setCell, Array.getElem?_modify]
  intro e
  exact absurd e.symm hp
abbrev putG (w : World) (g : Nat) (x0 x1 x2 x3 x4 : Value) : World := ((((w.setCell ⟨g, 0, none⟩ x0).setCell ⟨g, 1, none⟩ x1).setCell ⟨g, 2, none⟩ x2).setCell ⟨g, 3, none⟩ x3).setCell ⟨g, 4, none⟩ x4
theorem Bg.put {w : World} {g : Nat} {n : Bool} {s : Ws} (h : Bg w g n s) (m : Bool) (a b c d : Nat) : Bg (putG w g (.bool m) (.int .u64 a) (.int .u64 b) (.int .u64 c) (.int .u64 d)) g m ⟨a, b, c, d⟩ := by
  unfold Bg at h ⊢
  simp [putG, World.setCell, Array.getElem?_modify, h]
theorem belowG {w w' : World} {B g : Nat} (h : Below B w w') (hg : B ≤ g) (x0 x1 x2 x3 x4 : Value) : Below B w (putG w' g x0 x1 x2 x3 x4) :=
  ((((h.setCell (p := ⟨g, 0, none⟩) hg _).setCell (p := ⟨g, 1, none⟩) hg _).setCell (p := ⟨g, 2, none⟩) hg _).setCell (p := ⟨g, 3, none⟩) hg _).setCell (p := ⟨g, 4, none⟩) hg _
theorem Bg.all {w : World} {g : Nat} {n : Bool} {s : Ws} (h : Bg w g n s) : (w.cell? ⟨g, 0, none⟩ = some (.bool n) ∧ w.cell? ⟨g, 1, none⟩ = some (.int .u64 s.a) ∧ w.cell? ⟨g, 2, none⟩ = some (.int .u64 s.b) ∧ w.cell? ⟨g, 3, none⟩ = some (.int .u64 s.c) ∧ w.cell? ⟨g, 4, none⟩ = some (.int .u64 s.d)) ∧ w.frozen? ⟨g, 0, none⟩ = false ∧ w.frozen? ⟨g, 1, none⟩ = false ∧ w.frozen? ⟨g, 2, none⟩ = false ∧ w.frozen? ⟨g, 3, none⟩ = false ∧ w.frozen? ⟨g, 4, none⟩ = false :=
  ⟨h.cells, h.frozen 0, h.frozen 1, h.frozen 2, h.frozen 3, h.frozen 4⟩
theorem ret_bg {fn : Func} {R : Ending → World → Prop} {a : Act} {W : World} {k g : Nat} {n : Bool} {s : Ws} (hB : Bg W g n s) (hres : fn.results = #[.cell k 64]) (hslot : a.tmps.getD k undef = .pointer (some ⟨g, 0, none⟩)) (hd : a.defers = []) (hR : R (.returned (bgV n s)) W) : bodyPost Tryz.prog fn R .ret a W := by
  obtain ⟨c0, c1, c2, c3, c4⟩ := hB.cells
  refine bodyPost_ret (v := bgV n s) ?_ hd hR
  have hslot' : a.tmps[k]?.getD undef = .pointer (some ⟨g, 0, none⟩) := by simpa using hslot
  simp [results, hres, hslot', go_sem, c0, c1, c2, c3, c4, bgV]
theorem fld0 (n : Bool) (a b c d : Int) (w : World) : (Instr.field 64 (.agg #[.bool n, .int .u64 a, .int .u64 b, .int .u64 c, .int .u64 d]) 0).run Tryz.prog w = .ok (.bool n) w := by kernel_rfl
theorem fld1 (n : Bool) (a b c d : Int) (w : World) : (Instr.field 64 (.agg #[.bool n, .int .u64 a, .int .u64 b, .int .u64 c, .int .u64 d]) 1).run Tryz.prog w = .ok (.agg #[.int .u64 a, .int .u64 b, .int .u64 c, .int .u64 d]) w := by kernel_rfl
theorem nsets_two {W : World} {g : Nat} {s t : Ws} {fz : Nat × Nat} (hs : s.Ok) (ht : t.Ok) (h : W.heap[g]? = some (.cells #[.int .u64 s.a, .int .u64 s.b, .int .u64 s.c, .int .u64 s.d, .int .u64 t.a, .int .u64 t.b, .int .u64 t.c, .int .u64 t.d] 24 fz)) :
    SetsAt W (some ⟨g, 0, none⟩) [s, t] := by
  refine ⟨by simp [maxLen], ?_, .inr ⟨g, 0, rfl, (Array.getElem?_eq_some_iff.1 h).1, ?_⟩⟩
  · intro x hx
    simp at hx
    rcases hx with rfl | rfl
    · exact hs
    · exact ht
  · intro i hi
    match i, hi with
    | 0, _ => refine ⟨?_, ?_, ?_, ?_⟩ <;> (rw [Lib.cell_of_heap h]; rfl)
    | 1, _ => refine ⟨?_, ?_, ?_, ?_⟩ <;> (rw [Lib.cell_of_heap h]; rfl)
set_option maxHeartbeats 1000000 in
theorem nulBare_any (s : Ws) (w : World) :
    Calls Tryz.prog 104 #[s.v] w fun e w' => e = .returned (.bool (bareW s)) ∧ Below w.heap.size w w' := by
  by_cases hs : s = Ws.nil
  · subst hs
    have hq := eqW_yes Ws.nil
    rw [show bareW Ws.nil = true from rfl]
    rw [nil_v] at hq
    rw [nil_v]
    go_enter Tryz.func104, Tryz.ntmps104
    go_wp2
    go_ret
    exact ⟨rfl, (Below.refl _ w).alloc (Nat.le_refl _) _⟩
  · have hq := eqW_no hs
    rw [show bareW s = false from by simp [bareW, hs]]
    clear hs
    rw [nil_v] at hq
    obtain ⟨a, b, c, d⟩ := s
    unfold Ws.v at hq ⊢
    simp only at hq ⊢
    go_enter Tryz.func104, Tryz.ntmps104
    go_wp2
    go_ret
    exact ⟨rfl, (Below.refl _ w).alloc (Nat.le_refl _) _⟩
set_option maxHeartbeats 1000000 in
theorem void_any (n : Bool) (s : Ws) (w : World) :
    Calls Tryz.prog 79 #[bgV n s] w fun e w' => e = .returned (.bool (!n && bareW s)) ∧ Below w.heap.size w w' := by
  have K := Lib.hid (nulBare_any s)
  generalize bareW s = q at *
  obtain ⟨a, b, c, d⟩ := s
  unfold Ws.v at K
  unfold bgV
  simp only at K ⊢
  cases n with
  | true =>
    go_enter Tryz.func79, Tryz.ntmps79
    go_wp2
    go_ret
    exact ⟨rfl, (Below.refl _ w).alloc (Nat.le_refl _) _⟩
  | false =>
    go_enter Tryz.func79, Tryz.ntmps79
    go_wp2_with fail
    refine (K.out _).mono ?_
    rintro e w1 ⟨rfl, hb1⟩
    go_wp2
    go_ret
    exact ⟨by simp, ((Below.refl _ w).alloc (Nat.le_refl _) _).trans (hb1.mono (by simp))⟩
open Go.RowKit
def Bg3 (w W : World) (na nb : Bool) (fa fb : Ws) : Prop := Bg W w.heap.size na fa ∧ Bg W (w.heap.size + 1) nb fb ∧ Bg W (w.heap.size + 1 + 1) false Ws.nil ∧ Below w.heap.size w W
theorem Bg3.go {w W W' : World} {na nb : Bool} {fa fb : Ws} (h : Bg3 w W na nb fa fb) (hb : Below W.heap.size W W') : Bg3 w W' na nb fa fb :=
  ⟨h.1.below hb h.1.lt, h.2.1.below hb h.2.1.lt, h.2.2.1.below hb h.2.2.1.lt, h.2.2.2.trans (hb.mono h.2.2.2.size)⟩
theorem Bg3.new (w : World) (na nb : Bool) (a b c d a' b' c' d' : Nat) : Bg3 w (((w.alloc (.cells #[.bool na, .int .u64 a, .int .u64 b, .int .u64 c, .int .u64 d] 64)).alloc (.cells #[.bool nb, .int .u64 a', .int .u64 b', .int .u64 c', .int .u64 d'] 64)).alloc (.cells #[.bool false, .int .u64 0, .int .u64 0, .int .u64 0, .int .u64 0] 64)) na nb ⟨a, b, c, d⟩ ⟨a', b', c', d'⟩ :=
  ⟨((Bg.new na a b c d rfl).alloc _).alloc _, (Bg.new nb a' b' c' d' (by simp)).alloc _, Bg.zero (by simp), (((Below.refl _ w).alloc (Nat.le_refl _) _).alloc (by simp) _).alloc (by simp; omega) _⟩
set_option maxHeartbeats 4000000 in
theorem both_any (na nb : Bool) (fa fb : Ws) (w : World) (oka : fa.Ok) (okb : fb.Ok) :
    Calls Tryz.prog 58 #[bgV na fa, bgV nb fb] w fun e w' => e = .returned (bgV (bothN na nb fa fb).1 (bothN na nb fa fb).2) ∧ Below w.heap.size w w' := by
  have KV := Lib.hid (void_any nb fb)
  have KJ := Lib.hid fun (g : Nat) (cap : Nat) (W : World) (h : SetsAt W (some ⟨g, 0, none⟩) [fa, fb]) => join_any (some ⟨g, 0, none⟩) [fa, fb] cap W h
  rw [join_two] at KJ
  rw [show [fa, fb].length = 2 from rfl] at KJ
  have HS := Lib.hid fun (W : World) (g : Nat) (h : W.heap[g]? = some (.cells #[.int .u64 fa.a, .int .u64 fa.b, .int .u64 fa.c, .int .u64 fa.d, .int .u64 fb.a, .int .u64 fb.b, .int .u64 fb.c, .int .u64 fb.d] 24 (0, 0))) => nsets_two oka okb h
  have HN := Lib.hid (show bothN na nb fa fb = if (!nb && bareW fb) = true then (nb, fb) else if na = true then (nb, fa.join fb) else (na, fa) from rfl)
  rw [HN.out]
  clear HN oka okb
  generalize (!nb && bareW fb) = q at *
  generalize fa.join fb = j at *
  obtain ⟨fa0, fa1, fa2, fa3⟩ := fa
  obtain ⟨fb0, fb1, fb2, fb3⟩ := fb
  obtain ⟨j0, j1, j2, j3⟩ := j
  unfold Ws.v at KJ
  unfold bgV at KV ⊢
  simp only at KJ KV HS ⊢
  have HB0 := Lib.hid (Bg3.new w na nb fa0 fa1 fa2 fa3 fb0 fb1 fb2 fb3)
  go_enter Tryz.func58, Tryz.ntmps58
  go_wp2_with fail
  refine (KV.out _).mono ?_
  rintro e w1 ⟨rfl, hb1⟩
  have HB := Lib.hid (HB0.out.go hb1)
  clear hb1 HB0
  obtain ⟨⟨a0, a1, a2, a3, a4⟩, -⟩ := HB.out.1.all
  obtain ⟨⟨b0, b1, b2, b3, b4⟩, -⟩ := HB.out.2.1.all
  obtain ⟨⟨r0, r1, r2, r3, r4⟩, f0, f1, f2, f3, f4⟩ := HB.out.2.2.1.all
  simp only at a0 a1 a2 a3 a4 b0 b1 b2 b3 b4
  simp only [Ws.nil] at r0 r1 r2 r3 r4
  cases q with
  | true =>
    go_wp2
    exact ret_bg (HB.out.2.2.1.put nb fb0 fb1 fb2 fb3) Tryz.results58 rfl rfl ⟨rfl, belowG HB.out.2.2.2 (by omega) _ _ _ _ _⟩
  | false =>
    cases na with
    | false =>
      go_wp2
      exact ret_bg (HB.out.2.2.1.put false fa0 fa1 fa2 fa3) Tryz.results58 rfl rfl ⟨rfl, belowG HB.out.2.2.2 (by omega) _ _ _ _ _⟩
    | true =>
      go_wp2_with fail
      have hW0 := (Below.refl w1.heap.size w1).drew
      have hW1 := ((Below.refl w1.heap.size w1).alloc (Nat.le_refl _) (.cells #[.int .u64 fa0, .int .u64 fa1, .int .u64 fa2, .int .u64 fa3, .int .u64 fb0, .int .u64 fb1, .int .u64 fb2, .int .u64 fb3] 24)).drew
      have hlr : w.heap.size + 1 + 1 ≤ w1.heap.size := Nat.le_of_lt HB.out.2.2.1.lt
      have hV0 := hW0.mono hlr
      have hV1 := hW1.mono hlr
      have HSW := Lib.hid (show SetsAt (w1.alloc (.cells #[.int .u64 fa0, .int .u64 fa1, .int .u64 fa2, .int .u64 fa3, .int .u64 fb0, .int .u64 fb1, .int .u64 fb2, .int .u64 fb3] 24)).drew (some ⟨w1.heap.size, 0, none⟩) [⟨fa0, fa1, fa2, fa3⟩, ⟨fb0, fb1, fb2, fb3⟩] from HS.out _ _ (blk_new w1 _))
      have KEEP := Lib.hid fun x (hx : Below (w.heap.size + 1 + 1) w1 x) => show (x.cell? ⟨w.heap.size, 1, none⟩ = some (.int .u64 fa0) ∧ x.cell? ⟨w.heap.size, 2, none⟩ = some (.int .u64 fa1) ∧ x.cell? ⟨w.heap.size, 3, none⟩ = some (.int .u64 fa2) ∧ x.cell? ⟨w.heap.size, 4, none⟩ = some (.int .u64 fa3) ∧ x.cell? ⟨w.heap.size + 1, 0, none⟩ = some (.bool nb) ∧ x.cell? ⟨w.heap.size + 1, 1, none⟩ = some (.int .u64 fb0) ∧ x.cell? ⟨w.heap.size + 1, 2, none⟩ = some (.int .u64 fb1) ∧ x.cell? ⟨w.heap.size + 1, 3, none⟩ = some (.int .u64 fb2) ∧ x.cell? ⟨w.heap.size + 1, 4, none⟩ = some (.int .u64 fb3)) ∧ Below (w.heap.size + 1 + 1) w1 x from by
        obtain ⟨⟨-, a1, a2, a3, a4⟩, -⟩ := (HB.out.1.below hx (by omega)).all
        obtain ⟨⟨b0, b1, b2, b3, b4⟩, -⟩ := (HB.out.2.1.below hx (by omega)).all
        exact ⟨⟨a1, a2, a3, a4, b0, b1, b2, b3, b4⟩, hx⟩
      clear a0 a1 a2 a3 a4 b0 b1 b2 b3 b4 r0 r1 r2 r3 r4 f0 f1 f2 f3 f4
      go_region_held3 (fun x => (x.cell? ⟨w.heap.size, 1, none⟩ = some (.int .u64 fa0) ∧ x.cell? ⟨w.heap.size, 2, none⟩ = some (.int .u64 fa1) ∧ x.cell? ⟨w.heap.size, 3, none⟩ = some (.int .u64 fa2) ∧ x.cell? ⟨w.heap.size, 4, none⟩ = some (.int .u64 fa3) ∧ x.cell? ⟨w.heap.size + 1, 0, none⟩ = some (.bool nb) ∧ x.cell? ⟨w.heap.size + 1, 1, none⟩ = some (.int .u64 fb0) ∧ x.cell? ⟨w.heap.size + 1, 2, none⟩ = some (.int .u64 fb1) ∧ x.cell? ⟨w.heap.size + 1, 3, none⟩ = some (.int .u64 fb2) ∧ x.cell? ⟨w.heap.size + 1, 4, none⟩ = some (.int .u64 fb3)) ∧ Below (w.heap.size + 1 + 1) w1 x)
        (first | (with_reducible exact KEEP.out _ hV0) | (with_reducible exact KEEP.out _ hV1) | (with_reducible exact KEEP.out _ hV2) | (with_reducible exact KEEP.out _ hW3))
        (first
        | (go_at_call 59; (with_reducible refine (KJ.out _ _ _ HSW.out).mono ?_); (rintro e w2 ⟨rfl, hb2⟩); (with_reducible have hW2 := hW1.trans (hb2.mono hW1.size)); (have hB2 := HB.out.go hW2); (have hV2 := hW2.mono hlr); (have hW3 := belowG hV2 (Nat.le_refl _) (.bool nb) (.int .u64 j0) (.int .u64 j1) (.int .u64 j2) (.int .u64 j3)); (obtain ⟨⟨s0, s1, s2, s3, s4⟩, g0, g1, g2, g3, g4⟩ := hB2.2.2.1.all); (simp only [Ws.nil] at s0 s1 s2 s3 s4))
        | fail)
      all_goals
        go_wp2
        exact ret_bg (hB2.2.2.1.put nb j0 j1 j2 j3) Tryz.results58 rfl rfl ⟨rfl, belowG hB2.2.2.2 (by omega) _ _ _ _ _⟩
end Go.Proofs.YtkieoomjenhacaaGreatDoor
/- Lemmas of mine. -/
namespace Go.Proofs.YtkieoomjenhacaaGreatDoor
noncomputable def normX (r : Rx) : Rx := ((exX r).map fun e => (nfE e).rx).getD (.node 0 Ws.nil [])
open Go.RowKit
def zeroX : Rx := .node 0 Ws.nil []
noncomputable def wrdX (r : Rx) (s : List UInt8) : Rx × Nat := match exX r with
  | none => (zeroX, 1)
  | some e => match wrdE (nfE e) s with
    | none => (zeroX, 4)
    | some y => (y.rx, 0)
def TwPost (ok : Nat → Prop) (p : Rx × Nat) (w : World) (e : Ending) (w' : World) : Prop := ∃ v, e = .returned (.tuple #[v, .int .i64 (p.2 : Int)]) ∧ ReAt (okN ok w.heap.size) w' v p.1 ∧ Below w.heap.size w w'
theorem ret_re2 {fn : Func} {R : Ending → World → Prop} {a : Act} {W : World} {k i g : Nat} {x0 x1 x2 x3 x4 x5 : Value} {fz : Nat × Nat} (hB : W.heap[g]? = some (.cells #[x0, x1, x2, x3, x4, x5] 27 fz)) (hres : fn.results = #[.cell k 27, .tmp i]) (hslot : a.tmps.getD k undef = .pointer (some ⟨g, 0, none⟩)) (hd : a.defers = []) (hR : R (.returned (.tuple #[.agg #[x0, x1, x2, x3, x4, x5], a.tmps.getD i undef])) W) : bodyPost Tryz.prog fn R .ret a W := by
  have c0 : W.cell? ⟨g, 0, none⟩ = some x0 := by rw [Lib.cell_of_heap hB]; rfl
  have c1 : W.cell? ⟨g, 1, none⟩ = some x1 := by rw [Lib.cell_of_heap hB]; rfl
  have c2 : W.cell? ⟨g, 2, none⟩ = some x2 := by rw [Lib.cell_of_heap hB]; rfl
  have c3 : W.cell? ⟨g, 3, none⟩ = some x3 := by rw [Lib.cell_of_heap hB]; rfl
  have c4 : W.cell? ⟨g, 4, none⟩ = some x4 := by rw [Lib.cell_of_heap hB]; rfl
  have c5 : W.cell? ⟨g, 5, none⟩ = some x5 := by rw [Lib.cell_of_heap hB]; rfl
  refine bodyPost_ret (v := .tuple #[.agg #[x0, x1, x2, x3, x4, x5], a.tmps.getD i undef]) ?_ hd hR
  have hslot' : a.tmps[k]?.getD undef = .pointer (some ⟨g, 0, none⟩) := by simpa using hslot
  simp [results, hres, hslot', go_sem, c0, c1, c2, c3, c4, c5]
theorem ret_tw {fn : Func} {a : Act} {ok : Nat → Prop} {w W : World} {k i g n : Nat} {e : Ex} {y0 y1 y2 y3 y4 y5 : Value} (hz : W.heap[g]? = some zR) (h : ReAt (okN ok w.heap.size) W (.agg #[y0, y1, y2, y3, y4, y5]) e.rx) (hb : Below w.heap.size w W) (hg : w.heap.size ≤ g)
    (hres : fn.results = #[.cell k 27, .tmp i]) (hslot : a.tmps.getD k undef = .pointer (some ⟨g, 0, none⟩)) (hn : a.tmps.getD i undef = .int .i64 (n : Int)) (hd : a.defers = []) : bodyPost Tryz.prog fn (TwPost ok (e.rx, n) w) .ret a (putW W g y0 y1 y2 y3 y4 y5) := by
  refine ret_re2 (put_ex hz h).1 hres hslot hd ⟨_, ?_, (put_ex hz h).2, putB hb hg _ _ _ _ _ _⟩
  rw [hn]
theorem ret_tw0 {fn : Func} {a : Act} {ok : Nat → Prop} {w W : World} {k i g n : Nat} {x0 x1 x2 x3 x4 x5 : Value} (hz : W.heap[g]? = some (.cells #[x0, x1, x2, x3, x4, x5] 27)) (hb : Below w.heap.size w W) (hg : w.heap.size ≤ g)
    (hres : fn.results = #[.cell k 27, .tmp i]) (hslot : a.tmps.getD k undef = .pointer (some ⟨g, 0, none⟩)) (hn : a.tmps.getD i undef = .int .i64 (n : Int)) (hd : a.defers = []) : bodyPost Tryz.prog fn (TwPost ok (zeroX, n) w) .ret a (putW W g (.int .u8 0) (.int .u64 0) (.int .u64 0) (.int .u64 0) (.int .u64 0) (.slice none 0 0)) := by
  refine ret_re2 (putR hz _ _ _ _ _ _) hres hslot hd ⟨_, ?_, bareAt _ _ 0 Ws.nil (by decide) Ws.nil_ok, putB hb hg _ _ _ _ _ _⟩
  rw [hn]
  rfl
open Go.RowKit
def RdB (w : World) (D : Nat) (s : ByteArray) (k : Nat) (vl : Value) : Prop := w.heap[D]? = some (.cells #[.string s, .int .i64 k, vl] 91 (0, 0))
theorem RdB.lt {w : World} {D : Nat} {s : ByteArray} {k : Nat} {vl : Value} (h : RdB w D s k vl) : D < w.heap.size := (Array.getElem?_eq_some_iff.1 h).1
theorem RdB.cells {w : World} {D : Nat} {s : ByteArray} {k : Nat} {vl : Value} (h : RdB w D s k vl) : w.cell? ⟨D, 0, none⟩ = some (.string s) ∧ w.cell? ⟨D, 1, none⟩ = some (.int .i64 k) ∧ w.cell? ⟨D, 2, none⟩ = some vl := by
  unfold RdB at h
  refine ⟨?_, ?_, ?_⟩ <;> (rw [Lib.cell_of_heap h]; rfl)
theorem RdB.frozen {w : World} {D : Nat} {s : ByteArray} {k : Nat} {vl : Value} (h : RdB w D s k vl) : w.frozen? ⟨D, 0, none⟩ = false ∧ w.frozen? ⟨D, 1, none⟩ = false ∧ w.frozen? ⟨D, 2, none⟩ = false :=
  ⟨Lib.frozen_of_heap h 0, Lib.frozen_of_heap h 1, Lib.frozen_of_heap h 2⟩
theorem RdB.of {w w' : World} {D : Nat} {s : ByteArray} {k : Nat} {vl : Value} (h : RdB w D s k vl) (e : w'.heap[D]? = w.heap[D]?) : RdB w' D s k vl := e.trans h
theorem RdB.below {w w' : World} {D : Nat} {s : ByteArray} {k : Nat} {vl : Value} (h : RdB w D s k vl) (hb : Below w.heap.size w w') : RdB w' D s k vl := h.of (hb.block D h.lt)
theorem RdB.go {w : World} {D : Nat} {s : ByteArray} {k : Nat} {vl : Value} (h : RdB w D s k vl) (j : Nat) : RdB (w.setCell ⟨D, 1, none⟩ (.int .i64 (j : Int))) D s j vl := by
  unfold RdB at h ⊢
  simp [World.setCell, Array.getElem?_modify, h]
theorem RdB.lay {w : World} {D : Nat} {s : ByteArray} {k : Nat} {vl : Value} (h : RdB w D s k vl) (u : Value) : RdB (w.setCell ⟨D, 2, none⟩ u) D s k u := by
  unfold RdB at h ⊢
  simp [World.setCell, Array.getElem?_modify, h]
def thr (k : Nat) : Ending := .panicked [{ v := .iface 66 (.int .i64 k), recovered := false }]
theorem must_yes (p : Value) (w : World) : Calls Tryz.prog 61 #[p, .bool true] w fun e w' => e = .returned (.tuple #[]) ∧ w' = w := by
  go_enter Tryz.func61, Tryz.ntmps61
  go_wp2
  go_end0
  exact ⟨rfl, rfl⟩
theorem must_no {w : World} {D : Nat} {s : ByteArray} {k : Nat} {vl : Value} (h : RdB w D s k vl) : Calls Tryz.prog 61 #[.pointer (some ⟨D, 0, none⟩), .bool false] w fun e w' => e = thr k ∧ w' = w := by
  obtain ⟨c0, c1, c2⟩ := h.cells
  go_enter Tryz.func61, Tryz.ntmps61
  go_wp2
  exact ⟨rfl, rfl, rfl⟩
def frS (l : List UInt8) : ByteArray := ⟨(l.take 1).toArray⟩
theorem frS_ext (s : ByteArray) (k j : Nat) (hj : j = k + 1 ∨ (j = k ∧ s.size ≤ k)) : s.extract k j = frS (tl s k) := by
  apply ByteArray.ext
  unfold frS tl
  rw [ByteArray.data_extract]
  apply Array.ext'
  rw [Array.toList_extract, List.extract_eq_take_drop]
  rcases hj with rfl | ⟨rfl, h⟩
  · simp
  · rw [List.drop_eq_nil_of_le (by simpa using h)]; simp
set_option maxHeartbeats 1000000 in
theorem front_any {w : World} {D : Nat} {s : ByteArray} {k : Nat} {vl : Value} (h : RdB w D s k vl) (hs : s.size ≤ 1000000000) (hk : k ≤ s.size) : Calls Tryz.prog 80 #[.pointer (some ⟨D, 0, none⟩)] w fun e w' => e = .returned (.string (frS (tl s k))) ∧ Below w.heap.size w w' := by
  obtain ⟨c0, c1, c2⟩ := h.cells
  have wk : IntKind.i64.wrap ((k : Int) + 1) = (k : Int) + 1 := by rw [IntKind.wrap_i64]; omega
  clear h
  by_cases hlt : k < s.size
  · have q1 : (k : Int) + 1 ≤ (s.size : Int) := by omega
    have q2 : ((k : Int) + 1).toNat = k + 1 := by omega
    have hm : min ((k : Int) + 1) (s.size : Int) = (k : Int) + 1 := by omega
    go_enter Tryz.func80, Tryz.ntmps80
    go_wp2
    go_quiet (fail)
    go_wp2
    go_ret
    exact ⟨by rw [frS_ext s k (k + 1) (.inl rfl)]; rfl, below_drewN (Below.refl _ _) _⟩
  · have hke : k = s.size := by omega
    subst hke
    have hm : min ((s.size : Int) + 1) (s.size : Int) = (s.size : Int) := by omega
    go_enter Tryz.func80, Tryz.ntmps80
    go_wp2
    go_quiet (fail)
    go_wp2
    go_ret
    exact ⟨by rw [tl_nil s _ (Nat.le_refl _)]; rfl, below_drewN (Below.refl _ _) _⟩
set_option maxHeartbeats 1000000 in
theorem top_any {w : World} {D : Nat} {s : ByteArray} {k g n cap : Nat} (h : RdB w D s k (.slice (some ⟨g, 0, none⟩) (n + 1) cap)) (hn : n < 1000000000) : Calls Tryz.prog 91 #[.pointer (some ⟨D, 0, none⟩)] w fun e w' => e = .returned (.pointer (some ⟨g, n * 2, none⟩)) ∧ Below w.heap.size w w' := by
  obtain ⟨c0, c1, c2⟩ := h.cells
  have q1 : ((n + 1 : Nat) : Int) - 1 = (n : Int) := by omega
  have wk : IntKind.i64.wrap (n : Int) = (n : Int) := by rw [IntKind.wrap_i64]; omega
  clear h
  go_enter Tryz.func91, Tryz.ntmps91
  go_wp2
  go_quiet (fail)
  go_wp2
  go_ret
  exact ⟨rfl, below_drewN (Below.refl _ _) _⟩
open Go.RowKit
def isFalse (v : Value) : Bool := match v with
  | .bool false => true
  | _ => false
open Go.RowKit
set_option maxRecDepth 100000 in
set_option maxHeartbeats 4000000 in
theorem assert_mis (x : Value) (w : World) : (Instr.typeAssert (.iface 66 x) 20 66 true).run Tryz.prog w = .ok (.tuple #[x, .bool true]) w := by kernel_rfl
set_option maxRecDepth 100000 in
set_option maxHeartbeats 4000000 in
theorem assert_err (x : Value) (w : World) : (Instr.typeAssert (.iface 30 x) 20 30 true).run Tryz.prog w = .ok (.tuple #[x, .bool true]) w := by kernel_rfl
set_option maxRecDepth 100000 in
set_option maxHeartbeats 4000000 in
theorem assert_not (x : Value) (w : World) : (Instr.typeAssert (.iface 30 x) 20 66 true).run Tryz.prog w = .ok (.tuple #[.int .i64 0, .bool false]) w := by kernel_rfl
theorem rep15 : (Array.replicate 15 undef : Array Value) = #[undef, undef, undef, undef, undef, undef, undef, undef, undef, undef, undef, undef, undef, undef, undef] := rfl
set_option maxRecDepth 100000 in
set_option maxHeartbeats 4000000 in
theorem catch_idle (p q : Addr) (w : World) :
    CallsD Tryz.prog 40 #[.pointer (some p), .pointer (some q)] .returning w fun e u' w' => e = .returned (.tuple #[]) ∧ u' = .returning ∧ w' = w := by
  refine callsD_of_wpS Tryz.func40 rfl fun c₀ cs hu => ?_
  apply wpS_seq
  apply wpS_region
  simp [wpOpsS, go_sem, recoverD, hu, Tryz.ntmps40, Exit.thenS]
  simp only [rep15, List.setIfInBounds_toArray, List.set_cons_succ, List.set_cons_zero, List.append_toArray, List.cons_append, List.nil_append]
  refine wpS_of_wp ?_
  go_wp2
  cases c₀
  simp_all [bodyPostS, results, Tryz.results40]
set_option maxRecDepth 100000 in
set_option maxHeartbeats 4000000 in
theorem catch_form (g h : Nat) (k : Nat) (a b : Value) (older : List PanicEntry) (w : World) (ha : w.cell? ⟨g, 0, none⟩ = some a) (hb : w.cell? ⟨h, 0, none⟩ = some b) (fa : w.frozen? ⟨g, 0, none⟩ = false) (fb : w.frozen? ⟨h, 0, none⟩ = false) (hpq' : ¬ g = h) :
    CallsD Tryz.prog 40 #[.pointer (some ⟨g, 0, none⟩), .pointer (some ⟨h, 0, none⟩)] (.panicking ({ v := .iface 66 (.int .i64 k), recovered := false } :: older)) w fun e u' w' =>
      e = .returned (.tuple #[]) ∧ u' = .panicking ({ v := .iface 66 (.int .i64 k), recovered := true } :: older) ∧ w' = (w.setCell ⟨g, 0, none⟩ (.int .i64 k)).setCell ⟨h, 0, none⟩ (.int .i64 2) := by
  refine callsD_of_wpS Tryz.func40 rfl fun c₀ cs hu => ?_
  have h1 := assert_mis
  apply wpS_seq
  apply wpS_region
  simp [wpOpsS, go_sem, recoverD, hu, Tryz.ntmps40, Exit.thenS]
  simp only [rep15, List.setIfInBounds_toArray, List.set_cons_succ, List.set_cons_zero, List.append_toArray, List.cons_append, List.nil_append]
  refine wpS_of_wp ?_
  go_wp2
  simp [bodyPostS, results, Tryz.results40]
set_option maxRecDepth 100000 in
set_option maxHeartbeats 4000000 in
theorem catch_err (g h : Nat) (k : Nat) (b : Value) (older : List PanicEntry) (w : World) (hb : w.cell? ⟨h, 0, none⟩ = some b) (fb : w.frozen? ⟨h, 0, none⟩ = false) :
    CallsD Tryz.prog 40 #[.pointer (some ⟨g, 0, none⟩), .pointer (some ⟨h, 0, none⟩)] (.panicking ({ v := .iface 30 (.int .i64 k), recovered := false } :: older)) w fun e u' w' =>
      e = .returned (.tuple #[]) ∧ u' = .panicking ({ v := .iface 30 (.int .i64 k), recovered := true } :: older) ∧ w' = w.setCell ⟨h, 0, none⟩ (.int .i64 k) := by
  refine callsD_of_wpS Tryz.func40 rfl fun c₀ cs hu => ?_
  have h1 := assert_err
  have h2 := assert_not
  apply wpS_seq
  apply wpS_region
  simp [wpOpsS, go_sem, recoverD, hu, Tryz.ntmps40, Exit.thenS]
  simp only [rep15, List.setIfInBounds_toArray, List.set_cons_succ, List.set_cons_zero, List.append_toArray, List.cons_append, List.nil_append]
  refine wpS_of_wp ?_
  go_wp2
  simp [bodyPostS, results, Tryz.results40]
end Go.Proofs.YtkieoomjenhacaaGreatDoor
