/- Lemmas of mine, merged: QPRexK, QPRexL, QPRexN, QPRexS, QPRexU, QPNullB, QPDerS, QPEndA, QPEndB, QPEndC, QPEndD, QPEndE, QPDerT, QPEndF, QPRdrA, QPRdrQ. -/
import Derived.Test.YtiegejbbjlhpdaaQPRexEAll
import Derived.Test.YtiegejbbjlhpdaaQPSetCAll
import Derived.StillTailTactics
import Derived.IntWalk
import Derived.OwnWalk
import Derived.Test.YtiegejbbjlhpdaaQPRexBAll
import Derived.RegionTactic
import Derived.Deep.RegionHeld3
import Derived.Test.YtiegejbbjlhpdaaQPAnyOrdAll
import Derived.Test.YtiegejbbjlhpdaaQPSetEAll
import Derived.WalkKit
import Derived.WalkSpells
import Derived.WalkLawsBesides
import Derived.Lib.OthersKept
import Derived.Lib.Hide
import Derived.Deep.QuietTactic
import Derived.Laws.DeepStrings4
import Derived.BigQuiet
import Derived.BigRegion
import Derived.Recover
import Derived.Test.YtiegejbbjlhpdaaRows
import Derived.Defers
/- Lemmas of mine. -/
namespace Go.Proofs.Ytiegejbbjlhpdaa
open Go.RowKit
structure But (g B : Nat) (w w' : World) : Prop where
  os : w'.os = w.os
  tape : w'.tape = w.tape
  output : w'.output = w.output
  size : w.heap.size ≤ w'.heap.size
  block : ∀ k, k < B → k ≠ g → w'.heap[k]? = w.heap[k]?
theorem But.refl (g B : Nat) (w : World) : But g B w w := ⟨rfl, rfl, rfl, Nat.le_refl _, fun _ _ _ => rfl⟩
theorem But.trans {g B : Nat} {a b c : World} (h : But g B a b) (k : But g B b c) : But g B a c :=
  ⟨k.os.trans h.os, k.tape.trans h.tape, k.output.trans h.output, Nat.le_trans h.size k.size, fun i hi hg => (k.block i hi hg).trans (h.block i hi hg)⟩
theorem But.mono {g B B' : Nat} {w w' : World} (h : But g B w w') (hB : B' ≤ B) : But g B' w w' := ⟨h.os, h.tape, h.output, h.size, fun k hk hg => h.block k (Nat.lt_of_lt_of_le hk hB) hg⟩
theorem But.of {g B : Nat} {w w' : World} (h : Below B w w') : But g B w w' := ⟨h.os, h.tape, h.output, h.size, fun k hk _ => h.block k hk⟩
theorem But.below {g B : Nat} {w w' : World} (h : But g B w w') (hB : B ≤ g) : Below B w w' := ⟨h.os, h.tape, h.output, h.size, fun k hk => h.block k hk (by omega)⟩
theorem But.set {g B : Nat} {w w' : World} (h : But g B w w') (o : Nat) (v : Value) : But g B w (w'.setCell ⟨g, o, none⟩ v) :=
  h.trans ⟨rfl, rfl, rfl, by simp [World.setCell], fun k _ hg => Below.heap_setCell _ _ _ _ hg⟩
theorem But.kept {g : Nat} {w w' : World} {ok : Nat → Prop} (h : But g w.heap.size w w') (hok : ∀ b, ok b → b ≠ g) : Kept ok ok w w' := ⟨h.size, fun b h1 h2 => ⟨h2, h.block b h1 (hok b h2)⟩⟩
def Left (w : World) (g : Nat) (z : Int) : Prop := w.heap[g]? = some (.cells #[.int .i64 z] 3)
theorem Left.cells {w : World} {g : Nat} {z : Int} (h : Left w g z) : w.cell? ⟨g, 0, none⟩ = some (.int .i64 z) ∧ w.frozen? ⟨g, 0, none⟩ = false := by
  unfold Left at h
  exact ⟨by rw [Lib.cell_of_heap h]; rfl, Lib.frozen_of_heap h 0⟩
theorem Left.lt {w : World} {g : Nat} {z : Int} (h : Left w g z) : g < w.heap.size := (Array.getElem?_eq_some_iff.1 h).1
theorem Left.set {w : World} {g : Nat} {z : Int} (h : Left w g z) (y : Int) : Left (w.setCell ⟨g, 0, none⟩ (.int .i64 y)) g y := by
  unfold Left at h ⊢
  simp [World.setCell, Array.getElem?_modify, h]
def MayPost (q : Bool) (n m g : Nat) (w : World) (e : Ending) (w' : World) : Prop := e = .returned (.bool q) ∧ (∃ z : Int, Left w' g z ∧ (q = true → z = (n : Int) - m)) ∧ But g w.heap.size w w'
def MayAt (ok : Nat → Prop) (g N : Nat) : Prop := ∀ (r : Rx), r.size ≤ N → ∀ (n : Nat) (v : Value) (w : World), n ≤ 2000 → Left w g n → ReAt ok w v r →
    Calls Try.prog 40 #[v, .pointer (some ⟨g, 0, none⟩)] w (MayPost (mayN r n) n r.size g w)
def PtrAt (w : World) (gb g : Nat) : Prop := w.heap[gb]? = some (.cells #[.pointer (some ⟨g, 0, none⟩)] 67)
theorem PtrAt.cell {w : World} {gb g : Nat} (h : PtrAt w gb g) : w.cell? ⟨gb, 0, none⟩ = some (.pointer (some ⟨g, 0, none⟩)) := by
  unfold PtrAt at h
  rw [Lib.cell_of_heap h]; rfl
theorem PtrAt.lt {w : World} {gb g : Nat} (h : PtrAt w gb g) : gb < w.heap.size := (Array.getElem?_eq_some_iff.1 h).1
set_option maxHeartbeats 1000000 in
theorem closure_of {ok : Nat → Prop} {g N : Nat} (ih : MayAt ok g N) (r : Rx) (hr : r.size ≤ N) (n gb : Nat) (v : Value) (w : World) (hn : n ≤ 2000) (hL : Left w g n) (hP : PtrAt w gb g) (h : ReAt ok w v r) :
    Calls Try.prog 54 #[v, .pointer (some ⟨gb, 0, none⟩)] w (fun e w' => e = .returned (.bool (!mayN r n)) ∧ (∃ z : Int, Left w' g z ∧ (mayN r n = true → z = (n : Int) - r.size)) ∧ But g w.heap.size w w') := by
  have K := Lib.hid fun W (hb : Below w.heap.size w W) => ih r hr n v W hn ((hb.block _ hL.lt).trans hL) (h.below hb)
  obtain ⟨x0, x1, x2, x3, x4, bl, n', cp, rfl⟩ := cells_re h
  have c := hP.cell
  have hlt := hP.lt
  clear ih h hL hP
  generalize mayN r n = q at *
  go_enter Try.func54, Try.ntmps54
  go_wp2_with fail
  refine (K.out _ ((Below.refl _ w).alloc (Nat.le_refl _) _)).mono ?_
  rintro e w1 ⟨rfl, hz, hb⟩
  have HZ := Lib.hid hz
  have HB : But g w.heap.size w w1 := (But.of ((Below.refl _ w).alloc (Nat.le_refl _) _)).trans (hb.mono (by simp))
  clear hz hb
  go_wp2
  go_ret
  exact ⟨rfl, HZ.out, HB⟩
open Go.RowKit
def idxInv (l : List Rx) (n g gb : Nat) (w : World) (y : Value) (wr : World) : Prop := ∃ i m : Nat, i ≤ l.length ∧ y = .int .i64 i ∧ mayNs (l.take i) n = true ∧ m = n - Rx.sizes (l.take i) ∧ Left wr g m ∧ PtrAt wr gb g ∧ But g w.heap.size w wr
def IdxPost (q : Bool) (n m g : Nat) (w : World) (e : Ending) (w' : World) : Prop := ∃ x : Int, decide (0 ≤ x) = !q ∧ e = .returned (.int .i64 x) ∧ (∃ z : Int, Left w' g z ∧ (q = true → z = (n : Int) - m)) ∧ But g w.heap.size w w'
theorem mayNs_le {l : List Rx} {n : Nat} (h : mayNs l n = true) : Rx.sizes l ≤ n := by
  simp [mayNs] at h; omega
set_option maxHeartbeats 4000000 in
theorem index_of {ok : Nat → Prop} {g N : Nat} (hok : ∀ b, ok b → b ≠ g) (ih : MayAt ok g N) (l : List Rx) (hN : Rx.sizes l ≤ N) (n gb : Nat) (al : Option Addr) (cap : Nat) (w : World) (hn : n ≤ 2000) (hl : l.length < 2199023255552) (hgb : gb ≠ g) (hL : Left w g n) (hP : PtrAt w gb g) (hR : RowAt ok w al l) :
    Calls Try.prog 30 #[.slice al l.length cap, .func (.func 54) #[] #[.pointer (some ⟨gb, 0, none⟩)]] w (IdxPost (mayNs l n) n (Rx.sizes l) g w) := by
  have HI := Lib.hid ih
  have HR := Lib.hid hR
  have HL := Lib.hid hL
  have HP := Lib.hid hP
  clear ih hR hL hP
  go_enter Try.func30, Try.ntmps30
  go_wp2
  go_loopw [8] (fun y wr => idxInv l n g gb w y wr) (fun y _ => l.length - (intOf y).toNat)
  case atStart => exact ⟨0, n, Nat.zero_le _, rfl, by simp [mayNs, goodRs, Rx.sizes], by simp [Rx.sizes], HL.out, HP.out, But.refl _ _ _⟩
  case round =>
    obtain ⟨i, m, hi, rfl, hmay, hm, hleft, hptr, hb⟩ := hrel
    have HM := Lib.hid hm
    have HY := Lib.hid hmay
    have HLe := Lib.hid hleft
    have HPt := Lib.hid hptr
    have hmn : m ≤ 2000 := by omega
    clear hm hmay hleft hptr HL HP
    by_cases hlt : i < l.length
    · obtain ⟨b, off, hab, hblt, hbok, hnode⟩ := HR.out.kidOk hlt
      subst hab
      have hkid := NodeAt.go (hb.kept hok) _ (hb.block b hblt (hok b hbok)) hnode
      have hkz := size_kid hlt
      have HS1 := fun h => mayNs_step (n := n) hlt HY.out h
      have HS2 := fun h => mayNs_stop (n := n) hlt HY.out h
      have htk := sizes_take l i hlt
      rw [← HM.out] at HS1 HS2
      have hsm : mayN l[i] m = true → l[i].size ≤ m := fun h => by simp [mayN] at h; omega
      clear hnode
      generalize l[i] = kid at *
      obtain ⟨k', ⟨ta, tb, tc, td⟩, ks'⟩ := kid
      obtain ⟨al', cap', ⟨c0, c1, c2, c3, c4, c5⟩, hre⟩ := hkid.read
      simp only at c0 c1 c2 c3 c4 c5
      have K := Lib.hid (closure_of HI.out _ (Nat.le_trans hkz hN) m gb _ wr hmn HLe.out HPt.out hre)
      generalize (Rx.node k' ⟨ta, tb, tc, td⟩ ks').size = z at *
      generalize mayN (Rx.node k' ⟨ta, tb, tc, td⟩ ks') m = q at *
      have T1 := Lib.hid HS1
      have T2 := Lib.hid HS2
      have T3 := Lib.hid htk
      have T4 := Lib.hid hsm
      clear hkid hre HS1 HS2 htk hsm
      have q1 : (i : Int) < (l.length : Int) := by omega
      go_wp2_with fail
      refine K.out.mono ?_
      rintro e w1 ⟨rfl, ⟨x, hx, hxz⟩, hb1⟩
      have HX := Lib.hid hx
      have HXZ := Lib.hid hxz
      have HP1 := Lib.hid (show PtrAt w1 gb g from (hb1.block _ HPt.out.lt hgb).trans HPt.out)
      replace hb := hb.trans (hb1.mono hb.size)
      clear hx hxz hb1 c0 c1 c2 c3 c4 c5
      cases q with
      | true =>
        go_wp2
        refine ⟨⟨i + 1, m - z, by omega, by go_num, T1.out trivial, ?_, ?_, HP1.out, hb⟩, by simp [intOf]; omega⟩
        · have := T3.out; have := HM.out; omega
        · have h := HX.out
          rw [HXZ.out trivial] at h
          have := T4.out trivial
          rw [show ((m - z : Nat) : Int) = (m : Int) - z from by omega]
          exact h
      | false =>
        go_wp2
        go_ret
        refine ⟨i, ?_, rfl, ⟨x, HX.out, fun h => ?_⟩, hb⟩
        · rw [T2.out trivial]; simp
        · rw [T2.out trivial] at h; cases h
    · have he : l.take i = l := List.take_of_length_le (by omega)
      rw [he] at HY HM
      go_wp2
      go_ret
      refine ⟨-1, ?_, rfl, ⟨m, HLe.out, fun _ => ?_⟩, hb⟩
      · rw [HY.out]; rfl
      · have := HM.out; have := mayNs_le HY.out; omega
theorem contains_of {ok : Nat → Prop} {g N : Nat} (hok : ∀ b, ok b → b ≠ g) (ih : MayAt ok g N) (l : List Rx) (hN : Rx.sizes l ≤ N) (n gb : Nat) (al : Option Addr) (cap : Nat) (w : World) (hn : n ≤ 2000) (hl : l.length < 2199023255552) (hgb : gb ≠ g) (hL : Left w g n) (hP : PtrAt w gb g) (hR : RowAt ok w al l) :
    Calls Try.prog 38 #[.slice al l.length cap, .func (.func 54) #[] #[.pointer (some ⟨gb, 0, none⟩)]] w fun e w' => e = .returned (.bool (!mayNs l n)) ∧ (∃ z : Int, Left w' g z ∧ (mayNs l n = true → z = (n : Int) - Rx.sizes l)) ∧ But g w.heap.size w w' := by
  have K := Lib.hid (index_of hok ih l hN n gb al cap w hn hl hgb hL hP hR)
  clear ih hL hP hR
  generalize mayNs l n = q at *
  go_enter Try.func38, Try.ntmps38
  go_wp2_with fail
  refine K.out.mono ?_
  rintro e w1 ⟨x, hx, rfl, hz, hb⟩
  have HX := Lib.hid hx
  have HZ := Lib.hid hz
  clear hx hz
  go_wp2
  go_ret
  exact ⟨by rw [← HX.out]; rfl, HZ.out, hb⟩
theorem mayN_node (k : Nat) (s : Ws) (ks : List Rx) (n : Nat) : mayN (.node k s ks) n = (decide (0 < n) && (nodeGood k ks.length (bareB s) && mayNs ks (n - 1))) := by
  unfold mayN mayNs goodR Rx.size
  by_cases h : 0 < n
  · have e : decide (1 + Rx.sizes ks ≤ n) = decide (Rx.sizes ks ≤ n - 1) := by rw [decide_eq_decide]; omega
    rw [e]; simp [h, Bool.and_assoc]
  · have e : decide (1 + Rx.sizes ks ≤ n) = false := by simp; omega
    rw [e]; simp [h]
def mayW (w : World) (g : Nat) (z : Int) (o : Obj) : World := ((w.setCell ⟨g, 0, none⟩ (.int .i64 z)).alloc o).alloc (.cells #[.pointer (some ⟨g, 0, none⟩)] 67)
theorem mayW_facts {w : World} {g : Nat} {y : Int} (h : Left w g y) (z : Int) (o : Obj) :
    Left (mayW w g z o) g z ∧ PtrAt (mayW w g z o) (w.heap.size + 1) g ∧ (mayW w g z o).heap[w.heap.size]? = some o ∧ But g w.heap.size w (mayW w g z o) ∧ (mayW w g z o).heap.size = w.heap.size + 2 := by
  have hg := h.lt
  have hs : (w.setCell ⟨g, 0, none⟩ (.int .i64 z)).heap.size = w.heap.size := by simp [World.setCell]
  refine ⟨(Below.heap_alloc _ _ _ (by rw [World.size_alloc, hs]; omega)).trans ((Below.heap_alloc _ _ _ (by rw [hs]; exact hg)).trans (h.set z)), blk_at _ _ (by rw [World.size_alloc, hs]), (Below.heap_alloc _ _ _ (by rw [World.size_alloc, hs]; omega)).trans (blk_at _ _ hs.symm), ?_, ?_⟩
  · exact ((But.refl g w.heap.size w).set 0 _).trans (But.of (((Below.refl _ _).alloc (by rw [hs]; exact Nat.le_refl _) _).alloc (by rw [World.size_alloc, hs]; omega) _))
  · unfold mayW; rw [World.size_alloc, World.size_alloc, hs]
set_option maxHeartbeats 4000000 in
theorem nodesMay_all {ok : Nat → Prop} {g : Nat} (hok : ∀ b, ok b → b ≠ g) (N : Nat) : MayAt ok g N := by
  induction N with
  | zero => intro r h; have := r.size_pos; omega
  | succ N ih =>
    rintro ⟨k, s, ks⟩ hN n v w hn hL hR
    obtain ⟨hk, hs, al, cap, rfl, hcap, hmax, hrow⟩ := hR
    have hN' : Rx.sizes ks ≤ N := by simp [Rx.size] at hN; omega
    rw [mayN_node]
    have hg := hL.lt
    obtain ⟨c, f⟩ := hL.cells
    have HL := Lib.hid hL
    have KB := Lib.hid fun W => nodeMay_any k s ks.length al cap W hk hmax
    have KC := Lib.hid fun (m gb : Nat) (W : World) (hm : m ≤ 2000) (hgb : gb ≠ g) (hL : Left W g m) (hP : PtrAt W gb g) (hb : But g w.heap.size w W) => contains_of hok ih ks hN' m gb al cap W hm hmax hgb hL hP (hrow.go (hb.kept hok))
    generalize nodeGood k ks.length (bareB s) = q at *
    obtain ⟨sa, sb, sc, sd⟩ := s
    have HSZ := Lib.hid (show (Rx.node k ⟨sa, sb, sc, sd⟩ ks).size = 1 + Rx.sizes ks from by simp [Rx.size])
    clear ih hrow hN hL
    simp only at KB
    go_enter Try.func40, Try.ntmps40
    by_cases hn0 : n = 0
    · subst hn0
      obtain ⟨m1, m2, m3, m4, m5⟩ := mayW_facts HL.out (-1) (.cells #[.int .u8 k, .int .u64 sa, .int .u64 sb, .int .u64 sc, .int .u64 sd, .slice al ks.length cap] 27)
      unfold mayW at m1 m4
      have M1 := Lib.hid m1
      have M4 := Lib.hid m4
      clear m1 m2 m3 m4 m5
      go_wp2
      go_ret
      exact ⟨by simp, ⟨-1, M1.out, fun h => by simp at h⟩, M4.out⟩
    · have d1 : decide ((n : Int) - 1 < 0) = false := by simp; omega
      have d2 : decide (0 < n) = true := by simp; omega
      have D2 := Lib.hid d2
      obtain ⟨m1, m2, m3, m4, m5⟩ := mayW_facts HL.out ((n : Int) - 1) (.cells #[.int .u8 k, .int .u64 sa, .int .u64 sb, .int .u64 sc, .int .u64 sd, .slice al ks.length cap] 27)
      have M1 := Lib.hid m1
      have M2 := Lib.hid m2
      have M3 := Lib.hid m3
      have M4 := Lib.hid m4
      have M5 := Lib.hid m5
      clear m1 m2 m3 m4 m5 d2
      go_wp2_with fail
      refine (KB.out _).mono ?_
      rintro e w1 ⟨rfl, hb1⟩
      change Below (mayW w g ((n : Int) - 1) (.cells #[.int .u8 k, .int .u64 sa, .int .u64 sb, .int .u64 sc, .int .u64 sd, .slice al ks.length cap] 27)).heap.size (mayW w g ((n : Int) - 1) (.cells #[.int .u8 k, .int .u64 sa, .int .u64 sb, .int .u64 sc, .int .u64 sd, .slice al ks.length cap] 27)) w1 at hb1
      generalize mayW w g ((n : Int) - 1) (.cells #[.int .u8 k, .int .u64 sa, .int .u64 sb, .int .u64 sc, .int .u64 sd, .slice al ks.length cap] 27) = W at *
      have hz := M5.out
      have n1 : Left w1 g ((n : Int) - 1) := (hb1.block _ (by omega)).trans M1.out
      have n2 : PtrAt w1 (w.heap.size + 1) g := (hb1.block _ (by omega)).trans M2.out
      have n3 := (hb1.block w.heap.size (by omega)).trans M3.out
      have n4 : But g w.heap.size w w1 := M4.out.trans (But.of (hb1.mono (by omega)))
      obtain ⟨g0, g1, g2, g3, g4, g5, p0, p1, p2, p3, p4, p5⟩ := cellsR n3
      have N1 := Lib.hid n1
      have N2 := Lib.hid n2
      have N4 := Lib.hid n4
      clear n1 n2 n3 n4 hb1 hz
      cases q with
      | false =>
        go_wp2
        go_ret
        exact ⟨by simp, ⟨(n : Int) - 1, N1.out, fun h => by simp at h⟩, N4.out⟩
      | true =>
        have e1 : ((n - 1 : Nat) : Int) = (n : Int) - 1 := by omega
        have K := Lib.hid (KC.out (n - 1) (w.heap.size + 1) w1 (by omega) (by omega) (by rw [e1]; exact N1.out) N2.out N4.out)
        clear e1
        generalize mayNs ks (n - 1) = q at *
        go_wp2_with fail
        refine K.out.mono ?_
        rintro e w2 ⟨rfl, ⟨z, hz, hzz⟩, hb2⟩
        have HZ := Lib.hid hz
        have HZZ := Lib.hid hzz
        have hb3 : But g w.heap.size w w2 := N4.out.trans (hb2.mono N4.out.size)
        clear hz hzz hb2
        go_wp2
        go_ret
        refine ⟨by rw [D2.out]; simp, ⟨z, HZ.out, fun h => ?_⟩, hb3⟩
        rw [D2.out] at h
        have := HZZ.out (by simpa using h)
        rw [this, HSZ.out]; omega
open Go.RowKit
set_option maxHeartbeats 1000000 in
theorem mayClosure_any {ok : Nat → Prop} (r : Rx) (v : Value) (w : World) (h : ReAt ok w v r) :
    Calls Try.prog 39 #[v] w fun e w' => e = .returned (.bool (!mayR r)) ∧ Below w.heap.size w w' := by
  have h' : ReAt (fun b => b < w.heap.size) w v r := h.imp fun b hb _ => hb
  have K := Lib.hid fun W (hb : Below w.heap.size w W) (hL : Left W (w.heap.size + 1) (2000 : Nat)) => nodesMay_all (ok := fun b => b < w.heap.size) (g := w.heap.size + 1) (fun b hb => by omega) r.size r (Nat.le_refl _) 2000 v W (Nat.le_refl _) hL (h'.below hb)
  obtain ⟨x0, x1, x2, x3, x4, bl, n', cp, rfl⟩ := cells_re h
  clear h h'
  have hm : mayR r = mayN r 2000 := rfl
  rw [hm]
  generalize mayN r 2000 = q at *
  go_enter Try.func39, Try.ntmps39
  go_wp2_with fail
  refine (K.out _ (((Below.refl _ w).alloc (Nat.le_refl _) _).alloc (by simp) _) (blk_at _ _ (by simp))).mono ?_
  rintro e w1 ⟨rfl, -, hb⟩
  have hbw : Below w.heap.size w w1 := (((Below.refl _ w).alloc (Nat.le_refl _) _).alloc (by simp) _).trans ((hb.mono (by simp; omega)).below (by omega))
  clear hb
  go_wp2
  go_ret
  exact ⟨rfl, hbw⟩
def idxInv2 (l : List Rx) (w : World) (y : Value) (wr : World) : Prop := ∃ i : Nat, i ≤ l.length ∧ y = .int .i64 i ∧ (l.take i).all mayR = true ∧ Below w.heap.size w wr
def IdxPost2 (q : Bool) (w : World) (e : Ending) (w' : World) : Prop := ∃ x : Int, decide (0 ≤ x) = !q ∧ e = .returned (.int .i64 x) ∧ Below w.heap.size w w'
set_option maxHeartbeats 4000000 in
theorem index_any {ok : Nat → Prop} (l : List Rx) (al : Option Addr) (cap : Nat) (w : World) (hl : l.length < 2199023255552) (hR : RowAt ok w al l) :
    Calls Try.prog 30 #[.slice al l.length cap, .func (.func 39) #[] #[]] w (IdxPost2 (l.all mayR) w) := by
  have HR := Lib.hid hR
  clear hR
  go_enter Try.func30, Try.ntmps30
  go_wp2
  go_loopw [8] (fun y wr => idxInv2 l w y wr) (fun y _ => l.length - (intOf y).toNat)
  case atStart => exact ⟨0, Nat.zero_le _, rfl, by simp, Below.refl _ _⟩
  case round =>
    obtain ⟨i, hi, rfl, hmay, hb⟩ := hrel
    have HY := Lib.hid hmay
    clear hmay
    by_cases hlt : i < l.length
    · obtain ⟨b, off, hab, hblt, hnode⟩ := HR.out.kid hlt
      subst hab
      have hkid := NodeAt.below hb _ hblt hnode
      have htk : (l.take (i + 1)).all mayR = ((l.take i).all mayR && mayR l[i]) := by
        rw [List.take_succ_eq_append_getElem hlt, List.all_append]; simp
      have hno : mayR l[i] = false → l.all mayR = false := fun h => by
        rw [List.all_eq_false]; exact ⟨l[i], List.getElem_mem hlt, by rw [h]; simp⟩
      clear hnode
      generalize l[i] = kid at *
      obtain ⟨k', ⟨ta, tb, tc, td⟩, ks'⟩ := kid
      obtain ⟨al', cap', ⟨c0, c1, c2, c3, c4, c5⟩, hre⟩ := hkid.read
      simp only at c0 c1 c2 c3 c4 c5
      have K := Lib.hid (mayClosure_any _ _ wr hre)
      generalize mayR (Rx.node k' ⟨ta, tb, tc, td⟩ ks') = q at *
      have T1 := Lib.hid htk
      have T2 := Lib.hid hno
      clear hkid hre htk hno
      have q1 : (i : Int) < (l.length : Int) := by omega
      go_wp2_with fail
      refine K.out.mono ?_
      rintro e w1 ⟨rfl, hb1⟩
      replace hb := hb.trans (hb1.mono hb.size)
      clear hb1 c0 c1 c2 c3 c4 c5
      cases q with
      | true =>
        go_wp2
        exact ⟨⟨i + 1, by omega, by go_num, by rw [T1.out, HY.out]; rfl, hb⟩, by simp [intOf]; omega⟩
      | false =>
        go_wp2
        go_ret
        exact ⟨i, by rw [T2.out trivial]; simp, rfl, hb⟩
    · have he : l.take i = l := List.take_of_length_le (by omega)
      rw [he] at HY
      go_wp2
      go_ret
      exact ⟨-1, by rw [HY.out]; rfl, rfl, hb⟩
theorem contains_any {ok : Nat → Prop} (l : List Rx) (al : Option Addr) (cap : Nat) (w : World) (hl : l.length < 2199023255552) (hR : RowAt ok w al l) :
    Calls Try.prog 38 #[.slice al l.length cap, .func (.func 39) #[] #[]] w fun e w' => e = .returned (.bool (!l.all mayR)) ∧ Below w.heap.size w w' := by
  have K := Lib.hid (index_any l al cap w hl hR)
  clear hR
  generalize l.all mayR = q at *
  go_enter Try.func38, Try.ntmps38
  go_wp2_with fail
  refine K.out.mono ?_
  rintro e w1 ⟨x, hx, rfl, hb⟩
  have HX := Lib.hid hx
  clear hx
  go_wp2
  go_ret
  exact ⟨by rw [← HX.out]; rfl, hb⟩
theorem mayX {ok : Nat → Prop} (l : List Rx) (al : Option Addr) (cap : Nat) (w : World) (hl : l.length < 2199023255552) (hR : RowAt ok w al l) :
    Calls Try.prog 25 #[.slice al l.length cap] w fun e w' => e = .returned (.bool (l.all mayR)) ∧ Below w.heap.size w w' := by
  have K := Lib.hid (contains_any l al cap w hl hR)
  clear hR
  generalize l.all mayR = q at *
  go_enter Try.func25, Try.ntmps25
  go_wp2_with fail
  refine K.out.mono ?_
  rintro e w1 ⟨rfl, hb⟩
  go_wp2
  go_ret
  exact ⟨by simp, hb⟩
theorem row_new {w : World} {ok : Nat → Prop} {x0 x1 x2 x3 x4 x5 : Value} {r : Rx} (h : ReAt ok w (.agg #[x0, x1, x2, x3, x4, x5]) r) : RowAt (fun _ => True) (w.alloc (.cells #[x0, x1, x2, x3, x4, x5] 27)) (some ⟨w.heap.size, 0, none⟩) [r] :=
  row_one (blk_new w _) trivial ((h.below ((Below.refl _ w).alloc (Nat.le_refl _) _)).imp fun _ _ _ => trivial)
open Go.RowKit
mutual
def allR : Rx → List Rx
  | .node k s ks => .node k s ks :: allRs ks
def allRs : List Rx → List Rx
  | [] => []
  | r :: rs => allR r ++ allRs rs
end
theorem allRs_append (a b : List Rx) : allRs (a ++ b) = allRs a ++ allRs b := by
  induction a with
  | nil => simp [allRs]
  | cons x t ih => simp [allRs, ih, List.append_assoc]
mutual
theorem allR_length : ∀ (r : Rx), (allR r).length = r.size
  | .node k s ks => by
    have := allRs_length ks
    simp [allR, Rx.size, this]; omega
theorem allRs_length : ∀ (l : List Rx), (allRs l).length = Rx.sizes l
  | [] => by simp [allRs, Rx.sizes]
  | r :: rs => by
    have h1 := allR_length r
    have h2 := allRs_length rs
    simp [allRs, Rx.sizes, h1, h2]
end
mutual
theorem allR_good : ∀ (r : Rx), (allR r).all goodN = goodR r
  | .node k s ks => by
    have := allRs_good ks
    simp [allR, goodR, goodN, this]
theorem allRs_good : ∀ (l : List Rx), (allRs l).all goodN = goodRs l
  | [] => by simp [allRs, goodRs]
  | r :: rs => by
    have h1 := allR_good r
    have h2 := allRs_good rs
    simp [allRs, goodRs, List.all_append, h1, h2]
end
def AllPost (B : Nat) (l : List Rx) (w : World) (e : Ending) (w' : World) : Prop := ∃ g off cap, e = .returned (.slice (some ⟨g, off, none⟩) l.length cap) ∧ w.heap.size ≤ g ∧ g < w'.heap.size ∧ l.length ≤ cap ∧ NodesAt (Lo B) w' g off l ∧ Below w.heap.size w w'
def allInv (B : Nat) (r : Rx) (ks : List Rx) (sl : Value) (w : World) (v y : Value) (wr : World) : Prop := ∃ (i m : Nat) (xs : List Value), i ≤ ks.length ∧ y = .int .i64 i ∧ m = 1 + Rx.sizes (ks.take i) ∧ wr.cell? ⟨w.heap.size, 5, none⟩ = some sl ∧ Below w.heap.size w wr ∧ w.heap.size + 1 < wr.heap.size ∧ wr.ownsRow (w.heap.size + 1) 27 6 v m xs ∧ RowVals (Lo B) wr xs (r :: allRs (ks.take i))
set_option maxHeartbeats 4000000 in
theorem all_any (B : Nat) (N : Nat) : ∀ (r : Rx), r.size ≤ N → ∀ (v : Value) (w : World), r.size ≤ 8000000 → B ≤ w.heap.size → ReAt (Lo B) w v r →
    Calls Try.prog 35 #[v] w (AllPost B (allR r) w) := by
  obtain ⟨i0, hi, hz0, hz1, hz2⟩ := info_parts infoR
  have hz2' := Lib.hid hz2
  clear hz2
  induction N with
  | zero => intro r h; have := r.size_pos; omega
  | succ N ih =>
    rintro ⟨k, s, ks⟩ hN v w hbig hB hR
    have HRE := Lib.hid hR
    obtain ⟨hk, hs, al, cap, rfl, hcap, hmax, hrow⟩ := hR
    have hN' : Rx.sizes ks ≤ N := by simp [Rx.size] at hN; omega
    have hbig' : 1 + Rx.sizes ks ≤ 8000000 := by simp [Rx.size] at hbig; omega
    have IH := Lib.hid ih
    have HR := Lib.hid hrow
    have HALL := Lib.hid (show allR (.node k s ks) = .node k s ks :: allRs ks from by simp [allR])
    obtain ⟨sa, sb, sc, sd⟩ := s
    clear ih hrow hN hbig
    go_enter Try.func35, Try.ntmps35
    go_wp2
    go_loopw [3, 10] (fun v y wr => allInv B (.node k ⟨sa, sb, sc, sd⟩ ks) ks (.slice al ks.length cap) w v y wr) (fun _ y _ => ks.length - (intOf y).toNat)
    case atStart =>
      have hbw : Below w.heap.size w ((w.alloc (.cells #[.int .u8 k, .int .u64 sa, .int .u64 sb, .int .u64 sc, .int .u64 sd, .slice al ks.length cap] 27)).alloc (.cells #[.int .u8 k, .int .u64 sa, .int .u64 sb, .int .u64 sc, .int .u64 sd, .slice al ks.length cap] 27)) := ((Below.refl _ w).alloc (Nat.le_refl _) _).alloc (by simp) _
      refine ⟨0, 1, [.int .u8 k, .int .u64 sa, .int .u64 sb, .int .u64 sc, .int .u64 sd, .slice al ks.length cap], Nat.zero_le _, rfl, by simp [Rx.sizes], ?_, hbw, by simp, ⟨rfl, .inr ⟨w.heap.size + 1, 1, #[.int .u8 k, .int .u64 sa, .int .u64 sb, .int .u64 sc, .int .u64 sd, .slice al ks.length cap], rfl, Nat.le_refl _, blk_at _ _ (by simp), Nat.le_refl _, by simp [maxLen], rfl, rfl⟩⟩, ?_⟩
      · rw [Lib.cell_of_heap ((Below.heap_alloc _ _ _ (by simp)).trans (blk_new w _))]; rfl
      · simp only [List.take_zero, allRs]
        exact RowVals.one (HRE.out.go (kept_lo hB (hbw.mono hB)))
    case round =>
      obtain ⟨i, m, xs, hii, rfl, hm, hc5, hb, hgs, hown, hvals⟩ := hrel
      have HO := Lib.hid hown
      have HV := Lib.hid hvals
      have HM := Lib.hid hm
      have hsz := hb.size
      clear hown hvals hm
      by_cases hlt : i < ks.length
      · obtain ⟨b, off, hab, hblt, hnode⟩ := HR.out.kid hlt
        subst hab
        have hkid := NodeAt.below hb _ hblt hnode
        have hkz := size_kid hlt
        have hst := sizes_take ks i hlt
        have hle := sizes_take_le ks (i + 1)
        have htk : allRs (ks.take (i + 1)) = allRs (ks.take i) ++ allR ks[i] := by
          rw [List.take_succ_eq_append_getElem hlt, allRs_append]; simp [allRs]
        have hal := allR_length ks[i]
        clear hnode
        generalize ks[i] = kid at *
        obtain ⟨k', ⟨ta, tb, tc, td⟩, ks'⟩ := kid
        obtain ⟨al', cap', ⟨c0, c1, c2, c3, c4, c5⟩, hre⟩ := hkid.read
        simp only at c0 c1 c2 c3 c4 c5
        have KC := Lib.hid (IH.out _ (Nat.le_trans hkz hN') _ wr (by omega) (Nat.le_trans hB hsz) hre)
        have HTK := Lib.hid htk
        have HAL := Lib.hid hal
        have HST := Lib.hid hst
        have HLE := Lib.hid hle
        clear hkid hre htk hal hst hle hkz
        generalize allR (Rx.node k' ⟨ta, tb, tc, td⟩ ks') = L at *
        generalize (Rx.node k' ⟨ta, tb, tc, td⟩ ks').size = z at *
        go_wp2_with fail
        refine KC.out.mono ?_
        rintro e w1 ⟨g, off1, cap1, rfl, hg1, hg2, hcap1, hn1, hb1⟩
        obtain ⟨ys, hys, hyc, hyo⟩ := nodes_vals _ _ hn1
        have hbw : Below w.heap.size w w1 := hb.trans (hb1.mono hsz)
        have HO1 := Lib.hid (ownR_below HO.out hb1)
        have HV1 := Lib.hid (HV.out.go (kept_lo (Nat.le_trans hB hsz) (hb1.mono (Nat.le_trans hB hsz))))
        have HYS := Lib.hid hys
        have HYC := Lib.hid hyc
        have HYO := Lib.hid hyo
        have hc51 : w1.cell? ⟨w.heap.size, 5, none⟩ = some (.slice (some ⟨b, off, none⟩) ks.length cap) := by
          rw [hb1.cell (p := ⟨w.heap.size, 5, none⟩) (show w.heap.size < wr.heap.size from by omega)]; exact hc5
        have hsz1 : w.heap.size + 1 < w1.heap.size := Nat.lt_of_lt_of_le hgs hb1.size
        have hnum : m + L.length ≤ 8000000 := by
          have := HM.out; have := HAL.out; have := HST.out; have := HLE.out; omega
        clear c0 c1 c2 c3 c4 c5 hn1 hys hyc hyo hb1 hc5
        go_wp2_with (at_builtin; refine wpList_append_own _ rfl _ _ 25 rfl (w.heap.size + 1) 27 i0 _ 6 64 Try.underlying25 hi hz0 hz1 hz2'.out rfl (by decide) _ _ _ rfl HO1.out ⟨g, off1, none⟩ L.length cap1 ys rfl HYS.out.1 ?c1 HYO.out ?c3 ?c4 ?c5 ?_)
        case c1 => intro j u hj; rw [Go.WideShapes.add_plain]; exact HYC.out j u hj
        case c3 => unfold maxLen; omega
        case c4 => omega
        case c5 => omega
        intro v' w2 hown' hgrow _
        have hge := ownR_ge HO1.out
        have hb2 : Below w.heap.size w w2 := hbw.grown hgrow (by omega) (fun g hg => by have := hge g hg; omega)
        have hb2' : Below B w1 w2 := (Below.refl B w1).grown hgrow (by omega) (fun g hg => by have := hge g hg; omega)
        have hc52 : w2.cell? ⟨w.heap.size, 5, none⟩ = some (.slice (some ⟨b, off, none⟩) ks.length cap) := by
          rw [World.cell?_of_block (w := w1) (a := ⟨w.heap.size, 5, none⟩) (hgrow.block _ (by show w.heap.size < _; omega) (fun e => by have := hge _ e.symm; simp at this; omega))]; exact hc51
        have hsz2 : w.heap.size + 1 < w2.heap.size := Nat.lt_of_lt_of_le hsz1 hgrow.size
        have hvals : RowVals (Lo B) w2 (xs ++ ys) ((.node k ⟨sa, sb, sc, sd⟩ ks :: allRs (ks.take i)) ++ L) :=
          (HV1.out.go (kept_lo (by omega) hb2')).append (HYS.out.go (kept_lo (by omega) hb2'))
        have hm2 : m + L.length = 1 + Rx.sizes (ks.take (i + 1)) := by
          have := HM.out; have := HAL.out; have := HST.out; omega
        have HOW := Lib.hid hown'
        have HVL := Lib.hid hvals
        have HM2 := Lib.hid hm2
        clear hgrow hown' hvals hm2 hc51 hge hb2'
        go_wp2
        exact ⟨⟨i + 1, m + L.length, xs ++ ys, by omega, by go_num, HM2.out, hc52, hb2, hsz2, HOW.out, by rw [HTK.out]; exact HVL.out⟩, by simp [intOf]; omega⟩
      · have he : ks.take i = ks := List.take_of_length_le (by omega)
        rw [he] at HV HM
        rw [← HALL.out] at HV
        have hlen : m = (allR (.node k ⟨sa, sb, sc, sd⟩ ks)).length := by rw [HALL.out, List.length_cons, allRs_length, HM.out]; omega
        obtain ⟨g, cap2, hv, g1, g2, g3, g4⟩ := own_nodes (by rw [← hlen]; exact HO.out) HV.out (by rw [HALL.out]; simp)
        have G4 := Lib.hid g4
        subst hv
        generalize allR (.node k ⟨sa, sb, sc, sd⟩ ks) = L at *
        clear g4 he hlen
        go_wp2
        go_ret
        exact ⟨g, 0, cap2, rfl, by omega, g2, g3, G4.out, hb⟩
theorem allXb (B : Nat) (r : Rx) (v : Value) (w : World) (hbig : r.size ≤ 8000000) (hB : B ≤ w.heap.size) (h : ReAt (Lo B) w v r) :
    Calls Try.prog 35 #[v] w (AllPost B (allR r) w) := all_any B r.size r (Nat.le_refl _) v w hbig hB h
open Go.RowKit
def rmInv (L : List Rx) (w1 : World) (y : Value) (wr : World) : Prop := ∃ i : Nat, i ≤ L.length ∧ y = .int .i64 i ∧ (L.take i).all goodN = true ∧ Below w1.heap.size w1 wr
theorem all_no {L : List Rx} {i : Nat} (h : i < L.length) (hg : goodN L[i] = false) : L.all goodN = false := by
  rw [List.all_eq_false]; exact ⟨L[i], List.getElem_mem h, by rw [hg]; simp⟩
set_option maxHeartbeats 40000000 in
theorem refMay_big {ok : Nat → Prop} (r : Rx) (v : Value) (w : World) (hbig : r.size ≤ 8000000) (h : ReAt ok w v r) :
    Calls Try.prog 21 #[v] w fun e w' => e = .returned (.bool (mayR r)) ∧ Below w.heap.size w w' := by
  have h' : ReAt (Lo w.heap.size) w v r := h.imp fun b hb _ => hb
  have KA := Lib.hid fun W (hb : Below w.heap.size w W) => allXb w.heap.size r v W hbig hb.size (h'.go (kept_lo (Nat.le_refl _) hb))
  have hmay : mayR r = ((allR r).all goodN && decide ((allR r).length ≤ 2000)) := by
    rw [allR_good, allR_length]; rfl
  have HMAY := Lib.hid hmay
  have hlen : (allR r).length ≤ 8000000 := by rw [allR_length]; exact hbig
  obtain ⟨x0, x1, x2, x3, x4, bl, n', cp, rfl⟩ := cells_re h
  clear h h' hmay
  generalize mayR r = ans at *
  generalize allR r = L at *
  go_enter Try.func21, Try.ntmps21
  go_wp2_with fail
  refine (KA.out _ ((Below.refl _ w).alloc (Nat.le_refl _) _)).mono ?_
  rintro e w1 ⟨g, off, cap, rfl, hg1, hg2, hcap, hn, hb1⟩
  have hbw : Below w.heap.size w w1 := ((Below.refl _ w).alloc (Nat.le_refl _) _).trans (hb1.mono (by simp))
  have HN := Lib.hid hn
  have HBW := Lib.hid hbw
  clear hn hb1 hbw hg1
  go_wp2
  go_loopw [10] (fun y wr => rmInv L w1 y wr) (fun y _ => L.length - (intOf y).toNat)
  case atStart => exact ⟨0, Nat.zero_le _, rfl, by simp, Below.refl _ _⟩
  case round =>
    obtain ⟨i, hii, rfl, hall, hb⟩ := hrel
    have HA := Lib.hid hall
    have hfin := HBW.out.trans (hb.mono HBW.out.size)
    have HFIN := Lib.hid hfin
    clear hall hfin
    by_cases hlt : i < L.length
    · have hkid := NodeAt.below hb _ hg2 (nodesAt_get HN.out i hlt)
      have htk : (L.take (i + 1)).all goodN = ((L.take i).all goodN && goodN L[i]) := by
        rw [List.take_succ_eq_append_getElem hlt, List.all_append]; simp
      have hno := fun h => all_no hlt h
      generalize L[i] = kid at *
      obtain ⟨k, s, ks⟩ := kid
      obtain ⟨al', cap', ⟨c0, c1, c2, c3, c4, c5⟩, hre⟩ := hkid.read
      obtain ⟨hk, hs, -, -, -, -, hlk, -⟩ := hre
      have hgn : goodN (.node k s ks) = nodeGood k ks.length (bareB s) := rfl
      rw [hgn] at htk hno
      have T1 := Lib.hid htk
      have T2 := Lib.hid hno
      have hq : ∀ W : World, (Op.equalIn 10000 24 s.v (.agg #[.int .u64 0, .int .u64 0, .int .u64 0, .int .u64 0])).run Try.prog W = .ok (bareB s) W := fun W => by
        rw [← nil_v]
        by_cases hb : s = Ws.nil
        · subst hb; rw [eqW_yes, show bareB Ws.nil = true from sameW_iff.2 rfl]
        · rw [eqW_no hb]; congr 1
          have : ¬ sameW s Ws.nil = true := fun e => hb (sameW_iff.1 e)
          symm; simpa [bareB] using this
      generalize bareB s = q at *
      obtain ⟨sa, sb, sc, sd⟩ := s
      unfold Ws.v at hq
      simp only at c0 c1 c2 c3 c4 c5 hq
      clear hkid htk hno hgn
      have q1 : (i : Int) < (L.length : Int) := by omega
      by_cases k0 : k = 0
      · subst k0
        go_wp2
        go_ret
        exact ⟨by rw [HMAY.out, T2.out (by simp [nodeGood])]; simp, HFIN.out⟩
      by_cases k7 : 6 < k
      · have d1 : decide ((k : Int) < (1 : Int)) = false := by simp; omega
        have d2 : decide ((6 : Int) < (k : Int)) = true := by simp; omega
        have hng : nodeGood k ks.length q = false := by
          have n1 : ¬ k = 1 := by omega
          have n2 : ¬ k = 2 := by omega
          have n3 : ¬ k = 3 := by omega
          have n4 : ¬ k = 4 := by omega
          have n5 : ¬ k = 5 := by omega
          have n6 : ¬ k = 6 := by omega
          simp [nodeGood, n1, n2, n3, n4, n5, n6]
        have HNG := Lib.hid hng
        clear hng
        go_wp2
        go_ret
        exact ⟨by rw [HMAY.out, T2.out HNG.out]; simp, HFIN.out⟩
      have hk6 : k = 1 ∨ k = 2 ∨ k = 3 ∨ k = 4 ∨ k = 5 ∨ k = 6 := by omega
      clear k0 k7 hk
      have hgw : g < wr.heap.size := Nat.lt_of_lt_of_le hg2 hb.size
      rcases hk6 with rfl | rfl | rfl | rfl | rfl | rfl
      · rw [show ((1 : Nat) : Int) = 1 from rfl] at c0
        cases q
        · go_wp2
          go_ret
          exact ⟨by rw [HMAY.out, T2.out (by simp [nodeGood])]; simp, HFIN.out⟩
        · go_wp2
          go_region
          all_goals
            by_cases hm : ks.length = 0
            · have d1 : ((ks.length : Int) != 0) = false := by simp only [bne_eq_false_iff_eq]; omega
              have T3 := Lib.hid (show nodeGood 1 ks.length true = true from by simp [nodeGood, hm])
              clear hm
              go_wp2
              exact ⟨⟨i + 1, by omega, by go_num, by rw [T1.out, HA.out, T3.out]; rfl, hb.drew.alloc hb.size _⟩, by simp [intOf]; omega⟩
            · have d1 : ((ks.length : Int) != 0) = true := by simp only [bne_iff_ne, ne_eq]; omega
              have T3 := Lib.hid (show nodeGood 1 ks.length true = false from by simp [nodeGood, hm])
              clear hm
              go_wp2
              go_ret
              exact ⟨by rw [HMAY.out, T2.out T3.out]; simp, HFIN.out.drew.alloc HFIN.out.size _⟩
      · rw [show ((2 : Nat) : Int) = 2 from rfl] at c0
        cases q
        · go_wp2
          go_ret
          exact ⟨by rw [HMAY.out, T2.out (by simp [nodeGood])]; simp, HFIN.out⟩
        · go_wp2
          go_region
          all_goals
            by_cases hm : ks.length = 0
            · have d1 : ((ks.length : Int) != 0) = false := by simp only [bne_eq_false_iff_eq]; omega
              have T3 := Lib.hid (show nodeGood 2 ks.length true = true from by simp [nodeGood, hm])
              clear hm
              go_wp2
              exact ⟨⟨i + 1, by omega, by go_num, by rw [T1.out, HA.out, T3.out]; rfl, hb.drew.alloc hb.size _⟩, by simp [intOf]; omega⟩
            · have d1 : ((ks.length : Int) != 0) = true := by simp only [bne_iff_ne, ne_eq]; omega
              have T3 := Lib.hid (show nodeGood 2 ks.length true = false from by simp [nodeGood, hm])
              clear hm
              go_wp2
              go_ret
              exact ⟨by rw [HMAY.out, T2.out T3.out]; simp, HFIN.out.drew.alloc HFIN.out.size _⟩
      · rw [show ((3 : Nat) : Int) = 3 from rfl] at c0
        cases q
        · go_wp2
          go_region
          all_goals
            by_cases hm : ks.length = 0
            · have d1 : ((ks.length : Int) != 0) = false := by simp only [bne_eq_false_iff_eq]; omega
              have T3 := Lib.hid (show nodeGood 3 ks.length false = true from by simp [nodeGood, hm])
              clear hm
              go_wp2
              exact ⟨⟨i + 1, by omega, by go_num, by rw [T1.out, HA.out, T3.out]; rfl, hb.drew.alloc hb.size _⟩, by simp [intOf]; omega⟩
            · have d1 : ((ks.length : Int) != 0) = true := by simp only [bne_iff_ne, ne_eq]; omega
              have T3 := Lib.hid (show nodeGood 3 ks.length false = false from by simp [nodeGood, hm])
              clear hm
              go_wp2
              go_ret
              exact ⟨by rw [HMAY.out, T2.out T3.out]; simp, HFIN.out.drew.alloc HFIN.out.size _⟩
        · go_wp2
          go_ret
          exact ⟨by rw [HMAY.out, T2.out (by simp [nodeGood])]; simp, HFIN.out⟩
      · rw [show ((4 : Nat) : Int) = 4 from rfl] at c0
        cases q
        · go_wp2
          go_ret
          exact ⟨by rw [HMAY.out, T2.out (by simp [nodeGood])]; simp, HFIN.out⟩
        · go_wp2
          go_region
          all_goals
            by_cases hm : ks.length = 2
            · have d1 : ((ks.length : Int) != 2) = false := by simp only [bne_eq_false_iff_eq]; omega
              have T3 := Lib.hid (show nodeGood 4 ks.length true = true from by simp [nodeGood, hm])
              clear hm
              go_wp2
              exact ⟨⟨i + 1, by omega, by go_num, by rw [T1.out, HA.out, T3.out]; rfl, hb.drew.alloc hb.size _⟩, by simp [intOf]; omega⟩
            · have d1 : ((ks.length : Int) != 2) = true := by simp only [bne_iff_ne, ne_eq]; omega
              have T3 := Lib.hid (show nodeGood 4 ks.length true = false from by simp [nodeGood, hm])
              clear hm
              go_wp2
              go_ret
              exact ⟨by rw [HMAY.out, T2.out T3.out]; simp, HFIN.out.drew.alloc HFIN.out.size _⟩
      · rw [show ((5 : Nat) : Int) = 5 from rfl] at c0
        cases q
        · go_wp2
          go_ret
          exact ⟨by rw [HMAY.out, T2.out (by simp [nodeGood])]; simp, HFIN.out⟩
        · go_wp2
          go_region
          all_goals
            by_cases hm : ks.length = 2
            · have d1 : ((ks.length : Int) != 2) = false := by simp only [bne_eq_false_iff_eq]; omega
              have T3 := Lib.hid (show nodeGood 5 ks.length true = true from by simp [nodeGood, hm])
              clear hm
              go_wp2
              exact ⟨⟨i + 1, by omega, by go_num, by rw [T1.out, HA.out, T3.out]; rfl, hb.drew.alloc hb.size _⟩, by simp [intOf]; omega⟩
            · have d1 : ((ks.length : Int) != 2) = true := by simp only [bne_iff_ne, ne_eq]; omega
              have T3 := Lib.hid (show nodeGood 5 ks.length true = false from by simp [nodeGood, hm])
              clear hm
              go_wp2
              go_ret
              exact ⟨by rw [HMAY.out, T2.out T3.out]; simp, HFIN.out.drew.alloc HFIN.out.size _⟩
      · rw [show ((6 : Nat) : Int) = 6 from rfl] at c0
        cases q
        · go_wp2
          go_ret
          exact ⟨by rw [HMAY.out, T2.out (by simp [nodeGood])]; simp, HFIN.out⟩
        · go_wp2
          go_region
          all_goals
            by_cases hm : ks.length = 1
            · have d1 : ((ks.length : Int) != 1) = false := by simp only [bne_eq_false_iff_eq]; omega
              have T3 := Lib.hid (show nodeGood 6 ks.length true = true from by simp [nodeGood, hm])
              clear hm
              go_wp2
              exact ⟨⟨i + 1, by omega, by go_num, by rw [T1.out, HA.out, T3.out]; rfl, hb.drew.alloc hb.size _⟩, by simp [intOf]; omega⟩
            · have d1 : ((ks.length : Int) != 1) = true := by simp only [bne_iff_ne, ne_eq]; omega
              have T3 := Lib.hid (show nodeGood 6 ks.length true = false from by simp [nodeGood, hm])
              clear hm
              go_wp2
              go_ret
              exact ⟨by rw [HMAY.out, T2.out T3.out]; simp, HFIN.out.drew.alloc HFIN.out.size _⟩
    · have he : L.take i = L := List.take_of_length_le (by omega)
      rw [he] at HA
      have hd : decide ((L.length : Int) ≤ (2000 : Int)) = decide (L.length ≤ 2000) := by rw [decide_eq_decide]; omega
      have HD := Lib.hid hd
      clear hd he
      go_wp2
      go_ret
      exact ⟨by rw [HMAY.out, HA.out, ← HD.out]; rfl, HFIN.out⟩
theorem refMay_any {ok : Nat → Prop} (r : Rx) (v : Value) (w : World) (hbig : r.size ≤ 1000000) (h : ReAt ok w v r) :
    Calls Try.prog 21 #[v] w fun e w' => e = .returned (.bool (mayR r)) ∧ Below w.heap.size w w' := refMay_big r v w (Nat.le_trans hbig (by decide)) h
open Go.RowKit
noncomputable def exX (r : Rx) : Option Ex := by
  classical
  exact if h : ∃ e : Ex, e.rx = r ∧ e.Wf ∧ e.size ≤ 2000 then some (Classical.choose h) else none
theorem exX_of {e : Ex} (we : e.Wf) (hs : e.size ≤ 2000) : exX e.rx = some e := by
  classical
  have h : ∃ f : Ex, f.rx = e.rx ∧ f.Wf ∧ f.size ≤ 2000 := ⟨e, rfl, we, hs⟩
  unfold exX
  rw [dif_pos h]
  exact congrArg some (Ex.rx_inj _ _ (Classical.choose_spec h).1)
theorem exX_no {r : Rx} (h : mayR r = false) : exX r = none := by
  classical
  unfold exX
  rw [dif_neg]
  rintro ⟨e, rfl, we, hs⟩
  have : mayR e.rx = true := by simp [mayR, mayN, good_ex e we, Ex.size_rx, hs]
  rw [this] at h
  cases h
open Go.RowKit
def SP.bools (l : List Bool) : SP := ⟨fun x w => BoolsAt (fun _ => True) w x l, fun _ _ _ h hb => h.below hb⟩
def EndsPost (l : List Bool) (v0 : Value) (l0 : List Bool) (w : World) (e : Ending) (w' : World) : Prop := ∃ v, e = .returned v ∧ (BoolsAt (fun g => w.heap.size ≤ g) w' v l ∨ (v = v0 ∧ l = l0)) ∧ Below w.heap.size w w'
def AnyBl (l : List Bool) (w : World) (e : Ending) (w' : World) : Prop := ∃ v, e = .returned v ∧ BoolsAt (fun _ => True) w' v l ∧ Below w.heap.size w w'
def EndsC : Prop := ∀ (e : Ex), e.Wf → e.size ≤ 2000 → ∀ (ok ok' : Nat → Prop) (s : ByteArray) (l : List Bool) (v vf : Value) (w : World), s.size ≤ 100000 → l.length = s.size + 1 → ReAt ok w v e.rx → BoolsAt ok' w vf l →
  Calls Try.prog 46 #[v, .string s, vf] w (EndsPost (endsL e s.data.toList l) vf l w)
noncomputable def ends0 (r : Rx) (s : ByteArray) : List Bool := match exX r with
  | none => List.replicate (s.size + 1) false
  | some e => endsL e s.data.toList ((List.replicate (s.size + 1) false).set 0 true)
theorem ends_any (H : EndsC) {ok : Nat → Prop} (e : Ex) (we : e.Wf) (hs : e.size ≤ 2000) (s : ByteArray) (l : List Bool) (v vf : Value) (w : World) (hz : s.size ≤ 100000) (hl : l.length = s.size + 1) (h : ReAt ok w v e.rx) (h' : BoolsAt (fun _ => True) w vf l) :
    Calls Try.prog 46 #[v, .string s, vf] w (AnyBl (endsL e s.data.toList l) w) :=
  (H e we hs ok (fun _ => True) s l v vf w hz hl h h').mono fun x w' ⟨u, e1, e2, e3⟩ => ⟨u, e1, e2.elim (fun a => a.imp fun _ _ => trivial) (fun ⟨a, b⟩ => by rw [a, b]; exact h'.below e3), e3⟩
set_option maxHeartbeats 4000000 in
set_option maxRecDepth 100000 in
theorem refEnds (H : EndsC) {ok : Nat → Prop} (r : Rx) (s : ByteArray) (v : Value) (w : World) (hbig : r.size ≤ 1000000) (hz : s.size ≤ 100000) (h : ReAt ok w v r) :
    Calls Try.prog 29 #[v, .string s, .int .i64 0] w (AnyBl (ends0 r s) w) := by
  obtain ⟨x0, x1, x2, x3, x4, xl, xn, xc, rfl⟩ := cells_re h
  have HH := Lib.hid h
  obtain ⟨nF, hnF⟩ : ∃ n : Nat, n = s.size + 1 := ⟨_, rfl⟩
  have hmk := make_bools nF (by omega)
  rw [show (nF : Int) = (s.size : Int) + 1 from by omega] at hmk
  obtain ⟨arr, harr⟩ : ∃ a, a = ((List.replicate nF false).map Value.bool).toArray := ⟨_, rfl⟩
  rw [← harr] at hmk
  have hb0 : Below w.heap.size w (w.alloc (.cells #[.int .u8 x0, .int .u64 x1, .int .u64 x2, .int .u64 x3, .int .u64 x4, .slice xl xn xc] 27)) := (Below.refl _ w).alloc (Nat.le_refl _) _
  have X0 := Lib.hid (blk_new w (.cells #[.int .u8 x0, .int .u64 x1, .int .u64 x2, .int .u64 x3, .int .u64 x4, .slice xl xn xc] 27))
  have B0 := Lib.hid hb0
  have hsz : ((s.size : Int) < 0) = False := by simp
  obtain ⟨W, hW⟩ : ∃ x, x = (w.alloc (.cells #[.int .u8 x0, .int .u64 x1, .int .u64 x2, .int .u64 x3, .int .u64 x4, .slice xl xn xc] 27)).alloc (.cells arr 4) := ⟨_, rfl⟩
  obtain ⟨gF, hgF⟩ : ∃ x, x = w.heap.size + 1 := ⟨_, rfl⟩
  have hF0 : BoolsAt (fun g => (w.alloc (.cells #[.int .u8 x0, .int .u64 x1, .int .u64 x2, .int .u64 x3, .int .u64 x4, .slice xl xn xc] 27)).heap.size ≤ g) W (.slice (some ⟨gF, 0, none⟩) nF nF) (List.replicate nF false) := by
    rw [hW, show gF = (w.alloc (.cells #[.int .u8 x0, .int .u64 x1, .int .u64 x2, .int .u64 x3, .int .u64 x4, .slice xl xn xc] 27)).heap.size from by rw [hgF]; simp, harr]
    have := bools_new (w.alloc (.cells #[.int .u8 x0, .int .u64 x1, .int .u64 x2, .int .u64 x3, .int .u64 x4, .slice xl xn xc] 27)) (List.replicate nF false) (by simp [maxLen]; omega)
    simpa only [List.length_replicate] using this
  have BW := Lib.hid (show Below w.heap.size w W from by rw [hW]; exact B0.out.alloc (by simp) _)
  have XW := Lib.hid (show W.heap[w.heap.size]? = some (.cells #[.int .u8 x0, .int .u64 x1, .int .u64 x2, .int .u64 x3, .int .u64 x4, .slice xl xn xc] 27) from by rw [hW]; exact (Below.heap_alloc _ _ _ (by simp)).trans X0.out)
  have FW := Lib.hid hF0
  have KM := Lib.hid (refMay_any r _ W hbig (h.below BW.out))
  have hlt : w.heap.size < W.heap.size := by rw [hW]; simp; omega
  have hq : ends0 r s = match exX r with
    | none => List.replicate nF false
    | some e => endsL e s.data.toList ((List.replicate nF false).set 0 true) := by unfold ends0; rw [hnF]
  have HN := Lib.hid hnF
  clear hF0 hb0 X0 B0
  cases hm : mayR r with
  | false =>
    rw [hq, exX_no hm]
    rw [hm] at KM
    clear hq hm HH h hnF harr
    go_enter Try.func29, Try.ntmps29
    go_wp2_with fail
    rw [← hW, ← hgF]
    clear hW hgF
    obtain ⟨c0, c1, c2, c3, c4, c5, -⟩ := cellsR XW.out
    go_wp2_with fail
    refine KM.out.mono ?_
    rintro e w1 ⟨rfl, hb1⟩
    have B1 := Lib.hid (BW.out.trans (hb1.mono BW.out.size))
    have F1 := Lib.hid (show BoolsAt (fun _ => True) _ _ (List.replicate nF false) from (FW.out.below hb1).imp fun _ _ => trivial)
    clear hb1 BW FW
    go_wp2
    go_ret
    exact ⟨_, rfl, F1.out, B1.out⟩
  | true =>
    obtain ⟨e0, he0, we, hs⟩ := may_ex h hm
    rw [hq, ← he0, exX_of we hs]
    show Calls _ _ _ w (AnyBl (endsL e0 s.data.toList ((List.replicate nF false).set 0 true)) w)
    rw [hm] at KM
    have KM2 := Lib.hid fun x (hb : Below W.heap.size W x) => mark_any (ok := fun _ => True) (List.replicate nF false) 0 (.slice (some ⟨gF, 0, none⟩) nF nF) x (by simp; omega) (by simp; omega) ((FW.out.below hb).imp fun _ _ => trivial)
    have KE := Lib.hid fun x (hb : Below W.heap.size W x) y (hp : BoolsAt (fun _ => True) x y ((List.replicate nF false).set 0 true)) => ends_any H e0 we hs s _ (.agg #[.int .u8 x0, .int .u64 x1, .int .u64 x2, .int .u64 x3, .int .u64 x4, .slice xl xn xc]) y x hz (by simp; omega) (by rw [he0]; exact HH.out.below (BW.out.trans (hb.mono BW.out.size))) hp
    obtain ⟨mkd, hmkd⟩ : ∃ l, l = (List.replicate nF false).set 0 true := ⟨_, rfl⟩
    obtain ⟨res, hres⟩ : ∃ l, l = endsL e0 s.data.toList mkd := ⟨_, rfl⟩
    rw [← hmkd, ← hres]
    rw [← hmkd] at KM2 KE
    rw [← hres] at KE
    clear hq hm HH h he0 hmkd hres hnF harr
    go_enter Try.func29, Try.ntmps29
    go_wp2_with fail
    rw [← hW, ← hgF]
    clear hW hgF
    obtain ⟨c0, c1, c2, c3, c4, c5, -⟩ := cellsR XW.out
    go_wp2_with fail
    refine KM.out.mono ?_
    rintro e w1 ⟨rfl, hb1⟩
    have CX := Lib.hid fun x (hx : Below w1.heap.size w1 x) => cellsR (((hb1.trans (hx.mono hb1.size)).block _ hlt).trans XW.out)
    replace KM2 := Lib.hid fun x (hx : Below w1.heap.size w1 x) => KM2.out x (hb1.trans (hx.mono hb1.size))
    replace KE := Lib.hid fun x (hx : Below w1.heap.size w1 x) => KE.out x (hb1.trans (hx.mono hb1.size))
    have B1 := Lib.hid (BW.out.trans (hb1.mono BW.out.size))
    clear hb1 c0 c1 c2 c3 c4 c5 XW BW FW KM
    go_wp2_with fail
    refine wp_region_order (fun i => ([SP.eq (.agg #[.int .u8 x0, .int .u64 x1, .int .u64 x2, .int .u64 x3, .int .u64 x4, .slice xl xn xc]), SP.eq (.string s), SP.eq (.slice (some ⟨gF, 0, none⟩) nF nF), SP.eq (.int .i64 0), SP.bools mkd, SP.bools res, SP.bools res] : List SP).getD i SP.free) (by kernel_rfl) (by kernel_rfl) ⟨?_, ?_, ?_, ?_, ?_, ?_, ?_, trivial⟩ ?_
    · intro a x K out get hb hK
      rw [if_pos (wanted_none rfl)]
      have o3 : a.tmps[3]? = some (.pointer (some ⟨w.heap.size, 0, none⟩)) := out 3 (by kernel_rfl)
      obtain ⟨c0, c1, c2, c3, c4, c5, -⟩ := CX.out x hb
      clear out get
      go_simp
      exact hK _ _ rfl (Below.refl _ _)
    · intro a x K out get hb hK
      rw [if_pos (wanted_none rfl)]
      have o1 : a.tmps[1]? = some (.string s) := out 1 (by kernel_rfl)
      clear out get
      go_simp
      exact hK _ _ rfl (Below.refl _ _)
    · intro a x K out get hb hK
      rw [if_pos (wanted_none rfl)]
      have o7 : a.tmps[7]? = some (.slice (some ⟨gF, 0, none⟩) nF nF) := out 7 (by kernel_rfl)
      clear out get
      go_simp
      exact hK _ _ rfl (Below.refl _ _)
    · intro a x K out get hb hK
      rw [if_pos (wanted_none rfl)]
      have o2 : a.tmps[2]? = some (.int .i64 0) := out 2 (by kernel_rfl)
      clear out get
      go_simp
      exact hK _ _ rfl (Below.refl _ _)
    · intro a x K out get hb hK
      rw [if_pos (wanted_none rfl)]
      obtain ⟨y28, hy28, rfl⟩ := get 2 _ _ rfl rfl (by kernel_rfl)
      obtain ⟨y29, hy29, rfl⟩ := get 3 _ _ rfl rfl (by kernel_rfl)
      clear out get
      go_simp
      refine (KM2.out x hb).mono ?_
      rintro e w2 ⟨v2, rfl, hv2, hb2⟩
      exact hK _ _ (hv2.imp fun _ _ => trivial) hb2
    · intro a x K out get hb hK
      rw [if_pos (wanted_none rfl)]
      obtain ⟨y26, hy26, rfl⟩ := get 0 _ _ rfl rfl (by kernel_rfl)
      obtain ⟨y27, hy27, rfl⟩ := get 1 _ _ rfl rfl (by kernel_rfl)
      obtain ⟨y30, hy30, hp30⟩ := get 4 _ _ rfl rfl (by kernel_rfl)
      clear out get
      go_simp
      refine (KE.out x hb _ hp30).mono ?_
      rintro e w2 ⟨v2, rfl, hv2, hb2⟩
      exact hK _ _ hv2 hb2
    · intro a x K out get hb hK
      rw [if_pos (wanted_none rfl)]
      obtain ⟨y31, hy31, hp31⟩ := get 5 _ _ rfl rfl (by kernel_rfl)
      clear out get
      go_simp
      exact hK _ _ hp31 (Below.refl _ _)
    refine ao_fin (isD := fun s => (decide (26 ≤ s) && decide (s ≤ 31)) || decide (s = 6)) (by kernel_rfl) ?_
    intro f W5 hv hb5
    have f6 : BoolsAt (fun _ => True) W5 (f 6) res := hv 6 _ _ rfl rfl
    clear hv
    simp only [frm]
    simp
    generalize f 6 = u6 at *
    go_wp2
    go_ret
    exact ⟨_, rfl, f6, B1.out.trans (hb5.mono B1.out.size)⟩
open Go.RowKit
theorem ends_none (s : List UInt8) (l : List Bool) : endsL .empty s l = List.replicate (s.length + 1) false := by
  refine bools_ext (n := s.length + 1) (endsL_len _ _ _) (by simp) fun j hj => ?_
  rw [endsL_at]
  constructor
  · exact fun h => (ends_empty h).elim
  · intro h
    rw [List.getD_eq_getElem?_getD, List.getElem?_replicate] at h
    split at h <;> simp at h
theorem ends_eps9 (s : List UInt8) (l : List Bool) (hl : l.length = s.length + 1) : endsL .eps s l = l := by
  refine bools_ext (n := s.length + 1) (endsL_len _ _ _) hl fun j hj => ?_
  rw [endsL_at, ends_eps (by omega)]
theorem dlen (s : ByteArray) : s.data.toList.length = s.size := by rw [Array.length_toList]; rfl
set_option maxHeartbeats 4000000 in
set_option maxRecDepth 100000 in
theorem endsEmpty (ok ok' : Nat → Prop) (s : ByteArray) (l : List Bool) (v vf : Value) (w : World) (hz : s.size ≤ 100000) (hl : l.length = s.size + 1) (h : ReAt ok w v (Ex.rx (Ex.empty))) (_h' : BoolsAt ok' w vf l) :
    Calls Try.prog 46 #[v, .string s, vf] w (EndsPost (endsL (Ex.empty) s.data.toList l) vf l w) := by
  obtain ⟨ka, ⟨sa, sb, sc, sd⟩, ksa, hsa⟩ := rx_form (Ex.empty)
  have HA := Lib.hid h
  rw [hsa] at h
  obtain ⟨_, hsok, al, cap, rfl, hcap, _, hrow⟩ := h
  simp only at HA ⊢
  simp only [Ex.rx] at hsa
  injection hsa with e1 e2 e3
  subst e1
  subst e3
  obtain ⟨nF, hnF⟩ : ∃ n : Nat, n = s.size + 1 := ⟨_, rfl⟩
  have hmk := make_bools nF (by omega)
  rw [show (nF : Int) = (s.size : Int) + 1 from by omega] at hmk
  have hsz : ((s.size : Int) < 0) = False := by simp
  rw [ends_none, dlen, ← hnF]
  rw [show (([] : List Rx).length) = 0 from rfl]
  have hN := bools_new (w.alloc (.cells #[.int .u8 (1 : Nat), .int .u64 sa, .int .u64 sb, .int .u64 sc, .int .u64 sd, .slice al 0 cap] 27)) (List.replicate nF false) (by simp [maxLen]; omega)
  have hb := al2 w (.cells #[.int .u8 (1 : Nat), .int .u64 sa, .int .u64 sb, .int .u64 sc, .int .u64 sd, .slice al 0 cap] 27) (.cells (((List.replicate nF false).map Value.bool).toArray) 4)
  obtain ⟨arr, harr⟩ : ∃ a, a = ((List.replicate nF false).map Value.bool).toArray := ⟨_, rfl⟩
  rw [← harr] at hmk hN hb
  rw [List.length_replicate] at hN
  have HN := Lib.hid (show BoolsAt (fun g => w.heap.size ≤ g) _ (.slice (some ⟨w.heap.size + 1, 0, none⟩) nF nF) (List.replicate nF false) from by
    rw [show w.heap.size + 1 = (w.alloc (.cells #[.int .u8 (1 : Nat), .int .u64 sa, .int .u64 sb, .int .u64 sc, .int .u64 sd, .slice al 0 cap] 27)).heap.size from by simp]
    exact hN.imp fun g hg => by simp at hg; omega)
  have HB := Lib.hid hb
  clear hN hb harr hl hnF e2 HA hrow hcap
  go_enter Try.func46, Try.ntmps46
  go_wp2
  go_ret
  exact ⟨_, rfl, .inl HN.out, HB.out⟩
set_option maxHeartbeats 4000000 in
set_option maxRecDepth 100000 in
theorem endsEps (ok ok' : Nat → Prop) (s : ByteArray) (l : List Bool) (v vf : Value) (w : World) (hz : s.size ≤ 100000) (hl : l.length = s.size + 1) (h : ReAt ok w v (Ex.rx (Ex.eps))) (_h' : BoolsAt ok' w vf l) :
    Calls Try.prog 46 #[v, .string s, vf] w (EndsPost (endsL (Ex.eps) s.data.toList l) vf l w) := by
  obtain ⟨ka, ⟨sa, sb, sc, sd⟩, ksa, hsa⟩ := rx_form (Ex.eps)
  have HA := Lib.hid h
  rw [hsa] at h
  obtain ⟨_, hsok, al, cap, rfl, hcap, _, hrow⟩ := h
  simp only at HA ⊢
  simp only [Ex.rx] at hsa
  injection hsa with e1 e2 e3
  subst e1
  subst e3
  obtain ⟨nF, hnF⟩ : ∃ n : Nat, n = s.size + 1 := ⟨_, rfl⟩
  have hmk := make_bools nF (by omega)
  rw [show (nF : Int) = (s.size : Int) + 1 from by omega] at hmk
  have hsz : ((s.size : Int) < 0) = False := by simp
  rw [ends_eps9 _ _ (by rw [dlen]; exact hl)]
  rw [show (([] : List Rx).length) = 0 from rfl]
  have hb := al2 w (.cells #[.int .u8 (2 : Nat), .int .u64 sa, .int .u64 sb, .int .u64 sc, .int .u64 sd, .slice al 0 cap] 27) (.cells (((List.replicate nF false).map Value.bool).toArray) 4)
  obtain ⟨arr, harr⟩ : ∃ a, a = ((List.replicate nF false).map Value.bool).toArray := ⟨_, rfl⟩
  rw [← harr] at hmk hb
  have HB := Lib.hid hb
  clear hb harr hl hnF e2 HA hrow hcap
  go_enter Try.func46, Try.ntmps46
  go_wp2
  go_ret
  exact ⟨_, rfl, .inr ⟨rfl, rfl⟩, HB.out⟩
open Go.RowKit
theorem bools_lt {ok : Nat → Prop} {w : World} {v : Value} {l : List Bool} (h : BoolsAt ok w v l) : BoolsAt (fun g => g < w.heap.size) w v l := by
  obtain ⟨g, cap, cur, h1, _, h3, h4, h5⟩ := h
  exact ⟨g, cap, cur, h1, (Array.getElem?_eq_some_iff.1 h3).1, h3, h4, h5⟩
def BlV (B : Nat) (m : List Bool) (vf : Value) (l : List Bool) (x : Value) (w : World) : Prop := BoolsAt (fun g => B ≤ g) w x m ∨ (x = vf ∧ m = l)
def SP.bl (B : Nat) (m : List Bool) (vf : Value) (l : List Bool) : SP := ⟨BlV B m vf l, fun _ _ _ h hb => h.elim (fun h => .inl (h.below hb)) .inr⟩
theorem SP.bl_of {B n : Nat} {m l : List Bool} {vf v : Value} {w : World} (h : B ≤ n) (hv : BoolsAt (fun g => n ≤ g) w v m ∨ (v = vf ∧ m = l)) : (SP.bl B m vf l).p v w := hv.elim (fun h' => .inl (h'.imp fun _ hg => Nat.le_trans h hg)) .inr
theorem SP.bl_two {B n : Nat} {m m' l : List Bool} {vf v v' : Value} {w : World} (h : B ≤ n) (hv : BoolsAt (fun g => n ≤ g) w v m ∨ (v = v' ∧ m = m')) (hp : (SP.bl B m' vf l).p v' w) : (SP.bl B m vf l).p v w := by
  rcases hv with hv | ⟨rfl, rfl⟩
  · exact .inl (hv.imp fun _ hg => Nat.le_trans h hg)
  · exact hp
def EndsF (e : Ex) : Prop := ∀ (ok ok' : Nat → Prop) (s : ByteArray) (l : List Bool) (v vf : Value) (w : World), s.size ≤ 100000 → l.length = s.size + 1 → ReAt ok w v e.rx → BoolsAt ok' w vf l → Calls Try.prog 46 #[v, .string s, vf] w (EndsPost (endsL e s.data.toList l) vf l w)
theorem endsL_seq (a b : Ex) (s : List UInt8) (l : List Bool) : endsL (.seq a b) s l = endsL b s (endsL a s l) := by
  refine bools_ext (n := s.length + 1) (endsL_len _ _ _) (endsL_len _ _ _) fun j _ => ?_
  rw [endsL_at, endsL_at, ends_seq]
  exact ⟨ends_mono fun i h => (endsL_at a s l i).2 h, ends_mono fun i h => (endsL_at a s l i).1 h⟩
theorem endsL_sz (e : Ex) (s : ByteArray) (l : List Bool) : (endsL e s.data.toList l).length = s.size + 1 := by rw [endsL_len, dlen]
set_option maxHeartbeats 4000000 in
set_option maxRecDepth 100000 in
theorem endsSeq {a b : Ex} (ha : EndsF a) (hb : EndsF b) (ok ok' : Nat → Prop) (s : ByteArray) (l : List Bool) (v vf : Value) (w : World) (hz : s.size ≤ 100000) (hl : l.length = s.size + 1) (h : ReAt ok w v (Ex.rx (.seq a b))) (h' : BoolsAt ok' w vf l) :
    Calls Try.prog 46 #[v, .string s, vf] w (EndsPost (endsL (.seq a b) s.data.toList l) vf l w) := by
  obtain ⟨ka, ⟨sa, sb, sc, sd⟩, ksa, hsa⟩ := rx_form (.seq a b)
  have HA := Lib.hid h
  rw [hsa] at h
  obtain ⟨_, hsok, al, cap, rfl, hcap, _, hrow⟩ := h
  simp only at HA ⊢
  simp only [Ex.rx] at hsa
  injection hsa with e1 e2 e3
  subst e1
  subst e3
  obtain ⟨nF, hnF⟩ : ∃ n : Nat, n = s.size + 1 := ⟨_, rfl⟩
  have hmk := make_bools nF (by omega)
  rw [show (nF : Int) = (s.size : Int) + 1 from by omega] at hmk
  have hsz : ((s.size : Int) < 0) = False := by simp
  obtain ⟨bk, off, rfl, hlt, hn0⟩ := hrow.kid (i := 0) (by simp)
  simp only [List.getElem_cons_zero, Nat.zero_mul, Nat.add_zero] at hn0
  obtain ⟨kc, ⟨ca, cb, cc, cd⟩, ksc, hsc⟩ := rx_form a
  rw [hsc] at hn0
  obtain ⟨al0, cap0, ⟨i0, i1, i2, i3, i4, i5⟩, hrc⟩ := hn0.read
  simp only at i0 i1 i2 i3 i4 i5
  rw [← hsc] at hrc
  have I6 := Lib.hid (show w.cell? ⟨bk, off, none⟩ = some (.int .u8 kc) ∧ w.cell? ⟨bk, off + 1, none⟩ = some (.int .u64 ca) ∧ w.cell? ⟨bk, off + 2, none⟩ = some (.int .u64 cb) ∧ w.cell? ⟨bk, off + 3, none⟩ = some (.int .u64 cc) ∧ w.cell? ⟨bk, off + 4, none⟩ = some (.int .u64 cd) ∧ w.cell? ⟨bk, off + 5, none⟩ = some (.slice al0 ksc.length cap0) from ⟨i0, i1, i2, i3, i4, i5⟩)
  have HRC := Lib.hid hrc
  clear i0 i1 i2 i3 i4 i5 hn0 hrc
  obtain ⟨bk', off', e', hlt', hn1⟩ := hrow.kid (i := 1) (by simp)
  simp at e'
  obtain ⟨rfl, rfl⟩ := e'
  simp only [List.getElem_cons_zero, List.getElem_cons_succ, Nat.one_mul] at hn1
  obtain ⟨kd, ⟨da, db, dc, dd⟩, ksd, hsd⟩ := rx_form b
  rw [hsd] at hn1
  obtain ⟨al1, cap1, ⟨j0, j1, j2, j3, j4, j5⟩, hrd⟩ := hn1.read
  simp only at j0 j1 j2 j3 j4 j5
  rw [← hsd] at hrd
  have J6 := Lib.hid (show w.cell? ⟨bk, off + 6, none⟩ = some (.int .u8 kd) ∧ w.cell? ⟨bk, off + 6 + 1, none⟩ = some (.int .u64 da) ∧ w.cell? ⟨bk, off + 6 + 2, none⟩ = some (.int .u64 db) ∧ w.cell? ⟨bk, off + 6 + 3, none⟩ = some (.int .u64 dc) ∧ w.cell? ⟨bk, off + 6 + 4, none⟩ = some (.int .u64 dd) ∧ w.cell? ⟨bk, off + 6 + 5, none⟩ = some (.slice al1 ksd.length cap1) from ⟨j0, j1, j2, j3, j4, j5⟩)
  have HRD := Lib.hid hrd
  clear j0 j1 j2 j3 j4 j5 hn1 hsd hrd hsc
  have hcap2 : 2 ≤ cap := by simpa using hcap
  have hlen : [a.rx, b.rx].length = 2 := rfl
  rw [hlen, show (((4 : Nat) : Int)) = 4 from rfl]
  clear hlen hrow hcap e2 HA
  rw [endsL_seq]
  have hma := endsL_sz a s l
  obtain ⟨ma, hma2⟩ : ∃ m, m = endsL a s.data.toList l := ⟨_, rfl⟩
  have KA0 := Lib.hid fun W (hb : Below w.heap.size w W) => ha ok ok' s l _ vf W hz hl (HRC.out.below hb) (h'.below hb)
  rw [← hma2] at hma KA0 ⊢
  obtain ⟨mb, hmb2⟩ : ∃ m, m = endsL b s.data.toList ma := ⟨_, rfl⟩
  have KB0 := Lib.hid fun W (h1 : Below w.heap.size w W) y (ok' : Nat → Prop) (h2 : BoolsAt ok' W y ma) => hb ok ok' s ma _ y W hz hma (HRD.out.below h1) h2
  rw [← hmb2] at KB0 ⊢
  clear hma hma2 hmb2 ha hb hl
  obtain ⟨arr, harr⟩ : ∃ a, a = ((List.replicate nF false).map Value.bool).toArray := ⟨_, rfl⟩
  rw [← harr] at hmk
  obtain ⟨W, hW⟩ : ∃ x, x = (w.alloc (.cells #[.int .u8 4, .int .u64 sa, .int .u64 sb, .int .u64 sc, .int .u64 sd, .slice (some ⟨bk, off, none⟩) 2 cap] 27)).alloc (.cells arr 4) := ⟨_, rfl⟩
  have BX := Lib.hid (show W.heap[w.heap.size]? = some (.cells #[.int .u8 4, .int .u64 sa, .int .u64 sb, .int .u64 sc, .int .u64 sd, .slice (some ⟨bk, off, none⟩) 2 cap] 27) ∧ Below w.heap.size w W from by rw [hW]; exact ⟨(Below.heap_alloc _ _ _ (by simp)).trans (blk_new w _), al2 w _ _⟩)
  have FN := Lib.hid (show BoolsAt (fun g => g = w.heap.size + 1) W (.slice (some ⟨w.heap.size + 1, 0, none⟩) nF nF) (List.replicate nF false) from by
    have hN := bools_new (w.alloc (.cells #[.int .u8 4, .int .u64 sa, .int .u64 sb, .int .u64 sc, .int .u64 sd, .slice (some ⟨bk, off, none⟩) 2 cap] 27)) (List.replicate nF false) (by simp [maxLen]; omega)
    rw [← harr, ← hW, List.length_replicate, show (w.alloc (.cells #[.int .u8 4, .int .u64 sa, .int .u64 sb, .int .u64 sc, .int .u64 sd, .slice (some ⟨bk, off, none⟩) 2 cap] 27)).heap.size = w.heap.size + 1 from by simp] at hN
    obtain ⟨g, cap', cur, e1, _, e3, e4, e5⟩ := hN
    exact ⟨g, cap', cur, by rw [List.length_replicate]; rw [List.length_replicate] at e1; exact e1, (by injection e1 with e1; injection e1 with e1; injection e1 with e1; exact e1.symm), e3, e4, e5⟩)
  have hsW : w.heap.size + 1 + 1 = W.heap.size := by rw [hW]; simp
  have HF := Lib.hid (show BoolsAt (fun g => g < w.heap.size) w vf l from bools_lt h')
  clear harr h'
  go_enter Try.func46, Try.ntmps46
  go_wp2_with fail
  rw [← hW]
  clear hW
  have WB := Lib.hid fun x (hx : Below W.heap.size W x) => BX.out.2.trans (hx.mono BX.out.2.size)
  have CX := Lib.hid fun x (hx : Below W.heap.size W x) => cellsR ((hx.block _ (Array.getElem?_eq_some_iff.1 BX.out.1).1).trans BX.out.1)
  have CC := Lib.hid fun x (hx : Below W.heap.size W x) => six_keep hlt I6.out (WB.out x hx)
  have CD := Lib.hid fun x (hx : Below W.heap.size W x) => six_keep hlt J6.out (WB.out x hx)
  have KA := Lib.hid fun x (hx : Below W.heap.size W x) => KA0.out x (WB.out x hx)
  have KB := Lib.hid fun x (hx : Below W.heap.size W x) y (hp : (SP.bl W.heap.size ma vf l).p y x) => show Calls _ _ _ x (EndsPost mb y ma x) from hp.elim (fun h => KB0.out x (WB.out x hx) y _ h) (fun h => by obtain ⟨rfl, rfl⟩ := h; exact KB0.out x (WB.out x hx) _ _ (HF.out.below (WB.out x hx)))
  clear hsW FN I6 J6 HRC HRD KA0 KB0
  refine wp_region_order (fun i => ([SP.eq (.pointer (some ⟨w.heap.size, 5, none⟩)), SP.eq (.slice (some ⟨bk, off, none⟩) 2 cap), SP.eq (.pointer (some ⟨bk, off + 6, none⟩)), SP.eq (.agg #[.int .u8 kd, .int .u64 da, .int .u64 db, .int .u64 dc, .int .u64 dd, .slice al1 ksd.length cap1]), SP.eq (.string s), SP.eq (.pointer (some ⟨w.heap.size, 5, none⟩)), SP.eq (.slice (some ⟨bk, off, none⟩) 2 cap), SP.eq (.pointer (some ⟨bk, off, none⟩)), SP.eq (.agg #[.int .u8 kc, .int .u64 ca, .int .u64 cb, .int .u64 cc, .int .u64 cd, .slice al0 ksc.length cap0]), SP.eq (.string s), SP.eq (vf), SP.bl W.heap.size ma vf l, SP.bl W.heap.size mb vf l, SP.bl W.heap.size mb vf l] : List SP).getD i SP.free) (by kernel_rfl) (by kernel_rfl) ⟨?_, ?_, ?_, ?_, ?_, ?_, ?_, ?_, ?_, ?_, ?_, ?_, ?_, ?_, trivial⟩ ?_
  · intro a x K out get hb hK
    rw [if_pos (wanted_none rfl)]
    have o3 : a.tmps[3]? = some (.pointer (some ⟨w.heap.size, 0, none⟩)) := out 3 (by kernel_rfl)
    clear out get
    go_simp
    exact hK _ _ rfl (Below.refl _ _)
  · intro a x K out get hb hK
    rw [if_pos (wanted_none rfl)]
    obtain ⟨y56, hy56, rfl⟩ := get 0 _ _ rfl rfl (by kernel_rfl)
    clear out get
    have hk5 := (CX.out x hb).2.2.2.2.2.1
    go_simp
    exact hK _ _ rfl (Below.refl _ _)
  · intro a x K out get hb hK
    rw [if_pos (wanted_none rfl)]
    obtain ⟨y57, hy57, rfl⟩ := get 1 _ _ rfl rfl (by kernel_rfl)
    clear out get
    go_simp
    exact hK _ _ rfl (Below.refl _ _)
  · intro a x K out get hb hK
    rw [if_pos (wanted_none rfl)]
    obtain ⟨y58, hy58, rfl⟩ := get 2 _ _ rfl rfl (by kernel_rfl)
    clear out get
    obtain ⟨c0, c1, c2, c3, c4, c5⟩ := CD.out x hb
    go_simp
    exact hK _ _ rfl (Below.refl _ _)
  · intro a x K out get hb hK
    rw [if_pos (wanted_none rfl)]
    have o1 : a.tmps[1]? = some (.string s) := out 1 (by kernel_rfl)
    clear out get
    go_simp
    exact hK _ _ rfl (Below.refl _ _)
  · intro a x K out get hb hK
    rw [if_pos (wanted_none rfl)]
    have o3 : a.tmps[3]? = some (.pointer (some ⟨w.heap.size, 0, none⟩)) := out 3 (by kernel_rfl)
    clear out get
    go_simp
    exact hK _ _ rfl (Below.refl _ _)
  · intro a x K out get hb hK
    rw [if_pos (wanted_none rfl)]
    obtain ⟨y61, hy61, rfl⟩ := get 5 _ _ rfl rfl (by kernel_rfl)
    clear out get
    have hk5 := (CX.out x hb).2.2.2.2.2.1
    go_simp
    exact hK _ _ rfl (Below.refl _ _)
  · intro a x K out get hb hK
    rw [if_pos (wanted_none rfl)]
    obtain ⟨y62, hy62, rfl⟩ := get 6 _ _ rfl rfl (by kernel_rfl)
    clear out get
    go_simp
    exact hK _ _ rfl (Below.refl _ _)
  · intro a x K out get hb hK
    rw [if_pos (wanted_none rfl)]
    obtain ⟨y63, hy63, rfl⟩ := get 7 _ _ rfl rfl (by kernel_rfl)
    clear out get
    obtain ⟨c0, c1, c2, c3, c4, c5⟩ := CC.out x hb
    go_simp
    exact hK _ _ rfl (Below.refl _ _)
  · intro a x K out get hb hK
    rw [if_pos (wanted_none rfl)]
    have o1 : a.tmps[1]? = some (.string s) := out 1 (by kernel_rfl)
    clear out get
    go_simp
    exact hK _ _ rfl (Below.refl _ _)
  · intro a x K out get hb hK
    rw [if_pos (wanted_none rfl)]
    have o2 : a.tmps[2]? = some (vf) := out 2 (by kernel_rfl)
    clear out get
    go_simp
    exact hK _ _ rfl (Below.refl _ _)
  · intro a x K out get hb hK
    rw [if_pos (wanted_none rfl)]
    obtain ⟨y64, hy64, rfl⟩ := get 8 _ _ rfl rfl (by kernel_rfl)
    obtain ⟨y65, hy65, rfl⟩ := get 9 _ _ rfl rfl (by kernel_rfl)
    obtain ⟨y66, hy66, rfl⟩ := get 10 _ _ rfl rfl (by kernel_rfl)
    clear out get
    go_simp
    refine (KA.out x hb).mono ?_
    rintro e w2 ⟨v2, rfl, hv2, hb2⟩
    exact hK _ _ (SP.bl_of hb.size hv2) hb2
  · intro a x K out get hb hK
    rw [if_pos (wanted_none rfl)]
    obtain ⟨y59, hy59, rfl⟩ := get 3 _ _ rfl rfl (by kernel_rfl)
    obtain ⟨y60, hy60, rfl⟩ := get 4 _ _ rfl rfl (by kernel_rfl)
    obtain ⟨y67, hy67, hr67⟩ := get 11 _ _ rfl rfl (by kernel_rfl)
    clear out get
    go_simp
    refine (KB.out x hb _ hr67).mono ?_
    rintro e w2 ⟨v2, rfl, hv2, hb2⟩
    exact hK _ _ (SP.bl_two hb.size hv2 (SP.bl W.heap.size ma vf l |>.mono _ _ _ hr67 hb2)) hb2
  · intro a x K out get hb hK
    rw [if_pos (wanted_none rfl)]
    obtain ⟨y68, hy68, hr68⟩ := get 12 _ _ rfl rfl (by kernel_rfl)
    clear out get
    go_simp
    exact hK _ _ hr68 (Below.refl _ _)
  refine ao_fin (isD := fun s => (decide (56 ≤ s) && decide (s ≤ 68)) || decide (s = 6)) (by kernel_rfl) ?_
  intro f x hv hb
  have h6 := hv 13 _ _ rfl rfl
  have HB := Lib.hid (WB.out x hb)
  have H6 := Lib.hid (show BoolsAt (fun g => w.heap.size ≤ g) x (f 6) mb ∨ (f 6 = vf ∧ mb = l) from h6.elim (fun h => .inl (h.imp fun _ hg => Nat.le_trans BX.out.2.size hg)) .inr)
  clear hv hb h6
  simp only [frm]
  simp
  generalize f 6 = u6 at *
  generalize f 56 = u56 at *
  generalize f 57 = u57 at *
  generalize f 58 = u58 at *
  generalize f 59 = u59 at *
  generalize f 60 = u60 at *
  generalize f 61 = u61 at *
  generalize f 62 = u62 at *
  generalize f 63 = u63 at *
  generalize f 64 = u64 at *
  generalize f 65 = u65 at *
  generalize f 66 = u66 at *
  generalize f 67 = u67 at *
  generalize f 68 = u68 at *
  clear f
  go_wp2
  go_ret
  exact ⟨_, rfl, H6.out, HB.out⟩
open Go.RowKit
theorem endsL_alt (a b : Ex) (s : List UInt8) (l : List Bool) (j : Nat) : (endsL (.alt a b) s l).getD j false = ((endsL a s l).getD j false || (endsL b s l).getD j false) := by
  rw [Bool.eq_iff_iff, Bool.or_eq_true, endsL_at, endsL_at, endsL_at, ends_alt]
def altB (n i : Nat) (ma mb : List Bool) : List Bool := (List.range n).map fun j => if j < i then ma.getD j false || mb.getD j false else false
theorem altB_len (n i : Nat) (ma mb : List Bool) : (altB n i ma mb).length = n := by simp [altB]
theorem altB_zero (n : Nat) (ma mb : List Bool) : altB n 0 ma mb = List.replicate n false := by
  refine List.ext_getElem (by simp [altB]) fun j h1 h2 => ?_
  simp [altB]
theorem altB_succ (n i : Nat) (ma mb : List Bool) : (altB n i ma mb).set i (ma.getD i false || mb.getD i false) = altB n (i + 1) ma mb := by
  refine List.ext_getElem (by simp [altB]) fun j h1 h2 => ?_
  rw [List.getElem_set]
  simp only [altB, List.getElem_map, List.getElem_range]
  by_cases h : i = j
  · subst h; simp
  · rw [if_neg h]
    by_cases h' : j < i
    · rw [if_pos h', if_pos (by omega)]
    · rw [if_neg h', if_neg (by omega)]
theorem altB_all (a b : Ex) (s : List UInt8) (l : List Bool) : altB (s.length + 1) (s.length + 1) (endsL a s l) (endsL b s l) = endsL (.alt a b) s l := by
  refine bools_ext (n := s.length + 1) (altB_len _ _ _ _) (endsL_len _ _ _) fun j hj => ?_
  rw [endsL_alt]
  simp [altB, List.getD_eq_getElem?_getD, hj]
def SavB (g : Nat) (w w' : World) : Prop := w'.heap.size = w.heap.size ∧ ∀ b, b ≠ g → w'.heap[b]? = w.heap[b]?
theorem SavB.set {g n : Nat} {w w' : World} (h : SavB g w w') (v : Value) : SavB g w (w'.setCell ⟨g, n, none⟩ v) := ⟨by simp [World.setCell]; exact h.1, fun b hb => by rw [Below.heap_setCell _ _ _ _ hb]; exact h.2 b hb⟩
theorem bool_but {w w' : World} {g ga ca : Nat} {m : List Bool} (h : BoolsAt (fun b => b ≠ g) w (.slice (some ⟨ga, 0, none⟩) m.length ca) m) (hk : SavB g w w') (i : Nat) (hi : i < m.length) : w'.cell? ⟨ga, i, none⟩ = some (.bool m[i]) := by
  obtain ⟨g', cap, cur, e, h2, h3, h4, h5⟩ := h
  injection e with e1
  injection e1 with e1
  injection e1 with e1
  subst e1
  rw [World.cell?_of_block (w := w) (a := ⟨ga, i, none⟩) (hk.2 ga h2)]
  exact bool_cell h3 h5 i hi
theorem bools_form {ok : Nat → Prop} {w : World} {v : Value} {m : List Bool} (h : BoolsAt ok w v m) : ∃ g cap, v = .slice (some ⟨g, 0, none⟩) m.length cap ∧ g < w.heap.size := by
  obtain ⟨g, cap, cur, h1, _, h3, _⟩ := h
  exact ⟨g, cap, h1, (Array.getElem?_eq_some_iff.1 h3).1⟩
def altInv9 (gF nF : Nat) (ma mb : List Bool) (w x : World) (y : Value) (wr : World) : Prop := ∃ i : Nat, i ≤ nF ∧ y = .int .i64 i ∧ BoolsAt (fun g => g = gF) wr (.slice (some ⟨gF, 0, none⟩) nF nF) (altB nF i ma mb) ∧ SavB gF x wr ∧ Below w.heap.size w wr
set_option maxHeartbeats 4000000 in
set_option maxRecDepth 100000 in
theorem endsAlt {a b : Ex} (ha : EndsF a) (hb : EndsF b) (ok ok' : Nat → Prop) (s : ByteArray) (l : List Bool) (v vf : Value) (w : World) (hz : s.size ≤ 100000) (hl : l.length = s.size + 1) (h : ReAt ok w v (Ex.rx (.alt a b))) (h' : BoolsAt ok' w vf l) :
    Calls Try.prog 46 #[v, .string s, vf] w (EndsPost (endsL (.alt a b) s.data.toList l) vf l w) := by
  obtain ⟨ka, ⟨sa, sb, sc, sd⟩, ksa, hsa⟩ := rx_form (.alt a b)
  have HA := Lib.hid h
  rw [hsa] at h
  obtain ⟨_, hsok, al, cap, rfl, hcap, _, hrow⟩ := h
  simp only at HA ⊢
  simp only [Ex.rx] at hsa
  injection hsa with e1 e2 e3
  subst e1
  subst e3
  obtain ⟨nF, hnF⟩ : ∃ n : Nat, n = s.size + 1 := ⟨_, rfl⟩
  have hmk := make_bools nF (by omega)
  rw [show (nF : Int) = (s.size : Int) + 1 from by omega] at hmk
  have hsz : ((s.size : Int) < 0) = False := by simp
  obtain ⟨bk, off, rfl, hlt, hn0⟩ := hrow.kid (i := 0) (by simp)
  simp only [List.getElem_cons_zero, Nat.zero_mul, Nat.add_zero] at hn0
  obtain ⟨kc, ⟨ca, cb, cc, cd⟩, ksc, hsc⟩ := rx_form a
  rw [hsc] at hn0
  obtain ⟨al0, cap0, ⟨i0, i1, i2, i3, i4, i5⟩, hrc⟩ := hn0.read
  simp only at i0 i1 i2 i3 i4 i5
  rw [← hsc] at hrc
  have I6 := Lib.hid (show w.cell? ⟨bk, off, none⟩ = some (.int .u8 kc) ∧ w.cell? ⟨bk, off + 1, none⟩ = some (.int .u64 ca) ∧ w.cell? ⟨bk, off + 2, none⟩ = some (.int .u64 cb) ∧ w.cell? ⟨bk, off + 3, none⟩ = some (.int .u64 cc) ∧ w.cell? ⟨bk, off + 4, none⟩ = some (.int .u64 cd) ∧ w.cell? ⟨bk, off + 5, none⟩ = some (.slice al0 ksc.length cap0) from ⟨i0, i1, i2, i3, i4, i5⟩)
  have HRC := Lib.hid hrc
  clear i0 i1 i2 i3 i4 i5 hn0 hrc
  obtain ⟨bk', off', e', hlt', hn1⟩ := hrow.kid (i := 1) (by simp)
  simp at e'
  obtain ⟨rfl, rfl⟩ := e'
  simp only [List.getElem_cons_zero, List.getElem_cons_succ, Nat.one_mul] at hn1
  obtain ⟨kd, ⟨da, db, dc, dd⟩, ksd, hsd⟩ := rx_form b
  rw [hsd] at hn1
  obtain ⟨al1, cap1, ⟨j0, j1, j2, j3, j4, j5⟩, hrd⟩ := hn1.read
  simp only at j0 j1 j2 j3 j4 j5
  rw [← hsd] at hrd
  have J6 := Lib.hid (show w.cell? ⟨bk, off + 6, none⟩ = some (.int .u8 kd) ∧ w.cell? ⟨bk, off + 6 + 1, none⟩ = some (.int .u64 da) ∧ w.cell? ⟨bk, off + 6 + 2, none⟩ = some (.int .u64 db) ∧ w.cell? ⟨bk, off + 6 + 3, none⟩ = some (.int .u64 dc) ∧ w.cell? ⟨bk, off + 6 + 4, none⟩ = some (.int .u64 dd) ∧ w.cell? ⟨bk, off + 6 + 5, none⟩ = some (.slice al1 ksd.length cap1) from ⟨j0, j1, j2, j3, j4, j5⟩)
  have HRD := Lib.hid hrd
  clear j0 j1 j2 j3 j4 j5 hn1 hsd hrd hsc
  have hcap2 : 2 ≤ cap := by simpa using hcap
  have hlen : [a.rx, b.rx].length = 2 := rfl
  rw [hlen, show (((5 : Nat) : Int)) = 5 from rfl]
  clear hlen hrow hcap e2 HA
  rw [← altB_all, dlen, ← hnF]
  have hma := endsL_sz a s l
  have hmb := endsL_sz b s l
  have KA0 := Lib.hid fun W (hb : Below w.heap.size w W) => ha ok ok' s l _ vf W hz hl (HRC.out.below hb) (h'.below hb)
  have KB0 := Lib.hid fun W (h1 : Below w.heap.size w W) => hb ok ok' s l _ vf W hz hl (HRD.out.below h1) (h'.below h1)
  generalize endsL a s.data.toList l = ma at *
  generalize endsL b s.data.toList l = mb at *
  rw [← hnF] at hma hmb hl
  have HMA := Lib.hid hma
  have HMB := Lib.hid hmb
  have HL := Lib.hid hl
  have HNF := Lib.hid hnF
  have hnz : nF ≤ 100001 := by omega
  clear ha hb hl hma hmb hnF
  obtain ⟨arr, harr⟩ : ∃ a, a = ((List.replicate nF false).map Value.bool).toArray := ⟨_, rfl⟩
  rw [← harr] at hmk
  obtain ⟨W, hW⟩ : ∃ x, x = (w.alloc (.cells #[.int .u8 5, .int .u64 sa, .int .u64 sb, .int .u64 sc, .int .u64 sd, .slice (some ⟨bk, off, none⟩) 2 cap] 27)).alloc (.cells arr 4) := ⟨_, rfl⟩
  have BX := Lib.hid (show W.heap[w.heap.size]? = some (.cells #[.int .u8 5, .int .u64 sa, .int .u64 sb, .int .u64 sc, .int .u64 sd, .slice (some ⟨bk, off, none⟩) 2 cap] 27) ∧ Below w.heap.size w W from by rw [hW]; exact ⟨(Below.heap_alloc _ _ _ (by simp)).trans (blk_new w _), al2 w _ _⟩)
  have FN := Lib.hid (show BoolsAt (fun g => g = w.heap.size + 1) W (.slice (some ⟨w.heap.size + 1, 0, none⟩) nF nF) (List.replicate nF false) from by
    have hN := bools_new (w.alloc (.cells #[.int .u8 5, .int .u64 sa, .int .u64 sb, .int .u64 sc, .int .u64 sd, .slice (some ⟨bk, off, none⟩) 2 cap] 27)) (List.replicate nF false) (by simp [maxLen]; omega)
    rw [← harr, ← hW, List.length_replicate, show (w.alloc (.cells #[.int .u8 5, .int .u64 sa, .int .u64 sb, .int .u64 sc, .int .u64 sd, .slice (some ⟨bk, off, none⟩) 2 cap] 27)).heap.size = w.heap.size + 1 from by simp] at hN
    obtain ⟨g, cap', cur, e1, _, e3, e4, e5⟩ := hN
    exact ⟨g, cap', cur, by rw [List.length_replicate]; rw [List.length_replicate] at e1; exact e1, (by injection e1 with e1; injection e1 with e1; injection e1 with e1; exact e1.symm), e3, e4, e5⟩)
  have hsW : w.heap.size + 1 + 1 = W.heap.size := by rw [hW]; simp
  have HF := Lib.hid (show BoolsAt (fun g => g < w.heap.size) w vf l from bools_lt h')
  clear harr h'
  go_enter Try.func46, Try.ntmps46
  go_wp2_with fail
  rw [← hW]
  clear hW
  have WB := Lib.hid fun x (hx : Below W.heap.size W x) => BX.out.2.trans (hx.mono BX.out.2.size)
  have CX := Lib.hid fun x (hx : Below W.heap.size W x) => cellsR ((hx.block _ (Array.getElem?_eq_some_iff.1 BX.out.1).1).trans BX.out.1)
  have CC := Lib.hid fun x (hx : Below W.heap.size W x) => six_keep hlt I6.out (WB.out x hx)
  have CD := Lib.hid fun x (hx : Below W.heap.size W x) => six_keep hlt J6.out (WB.out x hx)
  have KA := Lib.hid fun x (hx : Below W.heap.size W x) => KA0.out x (WB.out x hx)
  have KB := Lib.hid fun x (hx : Below W.heap.size W x) => KB0.out x (WB.out x hx)
  clear I6 J6 HRC HRD KA0 KB0
  refine wp_region_order (fun i => ([SP.eq (.pointer (some ⟨w.heap.size, 5, none⟩)), SP.eq (.slice (some ⟨bk, off, none⟩) 2 cap), SP.eq (.pointer (some ⟨bk, off, none⟩)), SP.eq (.agg #[.int .u8 kc, .int .u64 ca, .int .u64 cb, .int .u64 cc, .int .u64 cd, .slice al0 ksc.length cap0]), SP.eq (.string s), SP.eq (vf), SP.bl W.heap.size ma vf l, SP.eq (.pointer (some ⟨w.heap.size, 5, none⟩)), SP.eq (.slice (some ⟨bk, off, none⟩) 2 cap), SP.eq (.pointer (some ⟨bk, off + 6, none⟩)), SP.eq (.agg #[.int .u8 kd, .int .u64 da, .int .u64 db, .int .u64 dc, .int .u64 dd, .slice al1 ksd.length cap1]), SP.eq (.string s), SP.eq (vf), SP.bl W.heap.size mb vf l, SP.bl W.heap.size ma vf l, SP.bl W.heap.size mb vf l] : List SP).getD i SP.free) (by kernel_rfl) (by kernel_rfl) ⟨?_, ?_, ?_, ?_, ?_, ?_, ?_, ?_, ?_, ?_, ?_, ?_, ?_, ?_, ?_, ?_, trivial⟩ ?_
  · intro a x K out get hb hK
    rw [if_pos (wanted_none rfl)]
    have o3 : a.tmps[3]? = some (.pointer (some ⟨w.heap.size, 0, none⟩)) := out 3 (by kernel_rfl)
    clear out get
    go_simp
    exact hK _ _ rfl (Below.refl _ _)
  · intro a x K out get hb hK
    rw [if_pos (wanted_none rfl)]
    obtain ⟨y71, hy71, rfl⟩ := get 0 _ _ rfl rfl (by kernel_rfl)
    clear out get
    have hk5 := (CX.out x hb).2.2.2.2.2.1
    go_simp
    exact hK _ _ rfl (Below.refl _ _)
  · intro a x K out get hb hK
    rw [if_pos (wanted_none rfl)]
    obtain ⟨y72, hy72, rfl⟩ := get 1 _ _ rfl rfl (by kernel_rfl)
    clear out get
    go_simp
    exact hK _ _ rfl (Below.refl _ _)
  · intro a x K out get hb hK
    rw [if_pos (wanted_none rfl)]
    obtain ⟨y73, hy73, rfl⟩ := get 2 _ _ rfl rfl (by kernel_rfl)
    clear out get
    obtain ⟨c0, c1, c2, c3, c4, c5⟩ := CC.out x hb
    go_simp
    exact hK _ _ rfl (Below.refl _ _)
  · intro a x K out get hb hK
    rw [if_pos (wanted_none rfl)]
    have o1 : a.tmps[1]? = some (.string s) := out 1 (by kernel_rfl)
    clear out get
    go_simp
    exact hK _ _ rfl (Below.refl _ _)
  · intro a x K out get hb hK
    rw [if_pos (wanted_none rfl)]
    have o2 : a.tmps[2]? = some (vf) := out 2 (by kernel_rfl)
    clear out get
    go_simp
    exact hK _ _ rfl (Below.refl _ _)
  · intro a x K out get hb hK
    rw [if_pos (wanted_none rfl)]
    obtain ⟨y74, hy74, rfl⟩ := get 3 _ _ rfl rfl (by kernel_rfl)
    obtain ⟨y75, hy75, rfl⟩ := get 4 _ _ rfl rfl (by kernel_rfl)
    obtain ⟨y76, hy76, rfl⟩ := get 5 _ _ rfl rfl (by kernel_rfl)
    clear out get
    go_simp
    refine (KA.out x hb).mono ?_
    rintro e w2 ⟨v2, rfl, hv2, hb2⟩
    exact hK _ _ (SP.bl_of hb.size hv2) hb2
  · intro a x K out get hb hK
    rw [if_pos (wanted_none rfl)]
    have o3 : a.tmps[3]? = some (.pointer (some ⟨w.heap.size, 0, none⟩)) := out 3 (by kernel_rfl)
    clear out get
    go_simp
    exact hK _ _ rfl (Below.refl _ _)
  · intro a x K out get hb hK
    rw [if_pos (wanted_none rfl)]
    obtain ⟨y78, hy78, rfl⟩ := get 7 _ _ rfl rfl (by kernel_rfl)
    clear out get
    have hk5 := (CX.out x hb).2.2.2.2.2.1
    go_simp
    exact hK _ _ rfl (Below.refl _ _)
  · intro a x K out get hb hK
    rw [if_pos (wanted_none rfl)]
    obtain ⟨y79, hy79, rfl⟩ := get 8 _ _ rfl rfl (by kernel_rfl)
    clear out get
    go_simp
    exact hK _ _ rfl (Below.refl _ _)
  · intro a x K out get hb hK
    rw [if_pos (wanted_none rfl)]
    obtain ⟨y80, hy80, rfl⟩ := get 9 _ _ rfl rfl (by kernel_rfl)
    clear out get
    obtain ⟨c0, c1, c2, c3, c4, c5⟩ := CD.out x hb
    go_simp
    exact hK _ _ rfl (Below.refl _ _)
  · intro a x K out get hb hK
    rw [if_pos (wanted_none rfl)]
    have o1 : a.tmps[1]? = some (.string s) := out 1 (by kernel_rfl)
    clear out get
    go_simp
    exact hK _ _ rfl (Below.refl _ _)
  · intro a x K out get hb hK
    rw [if_pos (wanted_none rfl)]
    have o2 : a.tmps[2]? = some (vf) := out 2 (by kernel_rfl)
    clear out get
    go_simp
    exact hK _ _ rfl (Below.refl _ _)
  · intro a x K out get hb hK
    rw [if_pos (wanted_none rfl)]
    obtain ⟨y81, hy81, rfl⟩ := get 10 _ _ rfl rfl (by kernel_rfl)
    obtain ⟨y82, hy82, rfl⟩ := get 11 _ _ rfl rfl (by kernel_rfl)
    obtain ⟨y83, hy83, rfl⟩ := get 12 _ _ rfl rfl (by kernel_rfl)
    clear out get
    go_simp
    refine (KB.out x hb).mono ?_
    rintro e w2 ⟨v2, rfl, hv2, hb2⟩
    exact hK _ _ (SP.bl_of hb.size hv2) hb2
  · intro a x K out get hb hK
    rw [if_pos (wanted_none rfl)]
    obtain ⟨y77, hy77, hr77⟩ := get 6 _ _ rfl rfl (by kernel_rfl)
    clear out get
    go_simp
    exact hK _ _ hr77 (Below.refl _ _)
  · intro a x K out get hb hK
    rw [if_pos (wanted_none rfl)]
    obtain ⟨y84, hy84, hr84⟩ := get 13 _ _ rfl rfl (by kernel_rfl)
    clear out get
    go_simp
    exact hK _ _ hr84 (Below.refl _ _)
  refine ao_fin (isD := fun s => (decide (71 ≤ s) && decide (s ≤ 84)) || decide (s = 9) || decide (s = 10)) (by kernel_rfl) ?_
  intro f x hv hb
  have h9 := hv 14 _ _ rfl rfl
  have h10 := hv 15 _ _ rfl rfl
  have HB := Lib.hid (WB.out x hb)
  have hsx := hb.size
  have hw1 : ∀ (m : List Bool) (u : Value), (SP.bl W.heap.size m vf l).p u x → BoolsAt (fun b => b ≠ w.heap.size + 1) x u m := fun m u h => by
    rcases h with h | ⟨rfl, rfl⟩
    · exact h.imp fun g hg => by omega
    · exact (HF.out.below HB.out).imp fun g hg => by omega
  have h9' := hw1 _ _ h9
  have h10' := hw1 _ _ h10
  have HFX := Lib.hid (FN.out.below hb)
  clear hv hb h9 h10 hw1
  generalize hF : (Act.mk (List.toArray (frm f _ 0 _)) _) = fr
  simp [frm] at hF
  generalize f 9 = va at *
  generalize f 10 = vb at *
  generalize f 71 = u71 at *
  generalize f 72 = u72 at *
  generalize f 73 = u73 at *
  generalize f 74 = u74 at *
  generalize f 75 = u75 at *
  generalize f 76 = u76 at *
  generalize f 77 = u77 at *
  generalize f 78 = u78 at *
  generalize f 79 = u79 at *
  generalize f 80 = u80 at *
  generalize f 81 = u81 at *
  generalize f 82 = u82 at *
  generalize f 83 = u83 at *
  generalize f 84 = u84 at *
  clear f
  obtain ⟨ga, ca, rfl, hga⟩ := bools_form h9'
  obtain ⟨gb, cb', rfl, hgb⟩ := bools_form h10'
  rw [HMA.out] at hF h9'
  rw [HMB.out] at hF h10'
  subst hF
  have H9 := Lib.hid h9'
  have H10 := Lib.hid h10'
  have HST : Hid (altInv9 (w.heap.size + 1) nF ma mb w x (.int .i64 ((0 : Nat) : Int)) x) := Lib.hid ⟨0, Nat.zero_le _, rfl, by rw [altB_zero]; exact HFX.out, ⟨rfl, fun _ _ => rfl⟩, HB.out⟩
  rw [show ((0 : Nat) : Int) = 0 from rfl] at HST
  clear h9' h10' HFX HB KA KB CC CD CX WB BX FN HF hsx hsW hga hgb HL
  go_wp2
  go_loopw [87] (fun y wr => altInv9 (w.heap.size + 1) nF ma mb w x y wr) (fun y _ => nF - (intOf y).toNat)
  case atStart => exact HST.out
  case round =>
    obtain ⟨i, hi, rfl, hm, hbut, hbr⟩ := hrel
    clear HST
    by_cases hlt : i < nF
    · have q1 : (i : Int) < (nF : Int) := by omega
      have hia : i < ma.length := by rw [HMA.out]; exact hlt
      have hib : i < mb.length := by rw [HMB.out]; exact hlt
      have a0 := bool_but (by rw [HMA.out]; exact H9.out) hbut i hia
      have b0 := bool_but (by rw [HMB.out]; exact H10.out) hbut i hib
      have hset := altB_succ nF i ma mb
      have eA : ma.getD i false = ma[i] := by rw [List.getD_eq_getElem?_getD, List.getElem?_eq_getElem hia]; rfl
      have eB : mb.getD i false = mb[i] := by rw [List.getD_eq_getElem?_getD, List.getElem?_eq_getElem hib]; rfl
      rw [eA, eB] at hset
      generalize ma[i] = pa at *
      generalize mb[i] = pb at *
      have hpq : (nF : Nat) = (altB nF i ma mb).length := (altB_len _ _ _ _).symm
      have hput := fun q => BoolsAt.put (n := i) (l := altB nF i ma mb) (by rw [← hpq]; exact hm) q
      obtain ⟨g0, cp0, cur0, e0, hg0, hh0, hm0, ht0⟩ := hm
      have f0 : wr.frozen? ⟨w.heap.size + 1, i, none⟩ = false := by rw [hg0] at hh0; exact Lib.frozen_of_heap hh0 i
      have c0 : wr.cell? ⟨w.heap.size + 1, i, none⟩ = some (.bool (altB nF i ma mb)[i]) := by rw [hg0] at hh0; exact bool_cell hh0 ht0 i (by rw [← hpq]; exact hlt)
      generalize (altB nF i ma mb)[i] = pz at *
      have H : Hid (altInv9 (w.heap.size + 1) nF ma mb w x (.int .i64 ((i + 1 : Nat) : Int)) (wr.setCell ⟨w.heap.size + 1, i, none⟩ (.bool (pa || pb)))) := Lib.hid ⟨i + 1, hlt, rfl, by rw [← hset]; have := hput (pa || pb); rw [← hpq] at this; exact this, hbut.set _, hbr.setCell (p := ⟨w.heap.size + 1, i, none⟩) (by show w.heap.size ≤ w.heap.size + 1; omega) _⟩
      clear hbut hbr hset eA eB hput hh0 ht0 e0 hg0 hm0 hpq
      cases pa with
      | true =>
        go_wp2
        exact ⟨by simpa using H.out, by simp [intOf]; omega⟩
      | false =>
        rw [Bool.false_or] at H
        go_wp2
        exact ⟨by simpa using H.out, by simp [intOf]; omega⟩
    · have hin : i = nF := by omega
      subst hin
      have q1 : ¬ (i : Int) < (i : Int) := by omega
      have HM := Lib.hid hm
      have HBR := Lib.hid hbr
      clear hm hbr hbut H9 H10
      go_wp2
      go_ret
      exact ⟨_, rfl, .inl (HM.out.imp fun g hg => by omega), HBR.out⟩
open Go.RowKit
def ClsM (t : Ws) (s : ByteArray) (l m : List Bool) (i : Nat) : Prop := m.length = s.size + 1 ∧ ∀ j, m.getD j false = true ↔ ∃ k, ∃ h : k < s.size, k < i ∧ j = k + 1 ∧ l.getD k false = true ∧ t.has s[k].toNat = true
theorem cls_zero (t : Ws) (s : ByteArray) (l : List Bool) : ClsM t s l (List.replicate (s.size + 1) false) 0 := by
  refine ⟨by simp, fun j => ⟨fun h => ?_, fun ⟨k, h, h1, _⟩ => by omega⟩⟩
  rw [List.getD_eq_getElem?_getD, List.getElem?_replicate] at h
  split at h <;> simp at h
theorem cls_no {t : Ws} {s : ByteArray} {l m : List Bool} {i : Nat} (h : ClsM t s l m i) (hi : i < s.size) (hn : ¬ (l.getD i false = true ∧ t.has s[i].toNat = true)) : ClsM t s l m (i + 1) := by
  refine ⟨h.1, fun j => (h.2 j).trans ⟨fun ⟨k, hk, h1, h2⟩ => ⟨k, hk, by omega, h2⟩, fun ⟨k, hk, h1, h2, h3, h4⟩ => ⟨k, hk, ?_, h2, h3, h4⟩⟩⟩
  have : k ≠ i := fun e => by subst e; exact hn ⟨h3, h4⟩
  omega
theorem cls_yes {t : Ws} {s : ByteArray} {l m : List Bool} {i : Nat} (h : ClsM t s l m i) (hi : i < s.size) (h1 : l.getD i false = true) (h2 : t.has s[i].toNat = true) : ClsM t s l (m.set (i + 1) true) (i + 1) := by
  refine ⟨by rw [List.length_set]; exact h.1, fun j => ?_⟩
  by_cases hj : j = i + 1
  · subst hj
    have hlt : i + 1 < (m.set (i + 1) true).length := by rw [List.length_set, h.1]; omega
    rw [List.getD_eq_getElem?_getD, List.getElem?_eq_getElem hlt]
    simp only [List.getElem_set_self, Option.getD_some, true_iff]
    exact ⟨i, hi, by omega, rfl, h1, h2⟩
  · rw [List.getD_eq_getElem?_getD, List.getElem?_set_ne (Ne.symm hj), ← List.getD_eq_getElem?_getD]
    exact (h.2 j).trans ⟨fun ⟨k, hk, h3, h4⟩ => ⟨k, hk, by omega, h4⟩, fun ⟨k, hk, h3, h4, h5⟩ => ⟨k, hk, by omega, h4, h5⟩⟩
theorem cls_all {t : Ws} {s : ByteArray} {l m : List Bool} (h : ClsM t s l m s.size) : m = endsL (.cls t) s.data.toList l := by
  have hl : s.data.toList.length = s.size := dlen s
  refine bools_ext (n := s.size + 1) h.1 (endsL_sz _ _ _) fun j hj => ?_
  rw [endsL_at, ends_cls, h.2 j]
  constructor
  · rintro ⟨k, hk, _, h1, h2, h3⟩
    exact ⟨k, by omega, h1, h2, h3⟩
  · rintro ⟨k, hk, h1, h2, h3⟩
    exact ⟨k, by omega, by omega, h1, h2, h3⟩
def clsInv9 (B : Nat) (t : Ws) (s : ByteArray) (l : List Bool) (W : World) (v y : Value) (wr : World) : Prop := ∃ (i : Nat) (m : List Bool), i ≤ s.size ∧ y = .int .i64 i ∧ ClsM t s l m i ∧ BoolsAt (fun g => B ≤ g) wr v m ∧ Below W.heap.size W wr
set_option maxHeartbeats 4000000 in
set_option maxRecDepth 100000 in
theorem endsCls (t : Ws) (ok ok' : Nat → Prop) (s : ByteArray) (l : List Bool) (v vf : Value) (w : World) (hz : s.size ≤ 100000) (hl : l.length = s.size + 1) (h : ReAt ok w v (Ex.rx (.cls t))) (h' : BoolsAt ok' w vf l) :
    Calls Try.prog 46 #[v, .string s, vf] w (EndsPost (endsL (.cls t) s.data.toList l) vf l w) := by
  obtain ⟨ka, ⟨sa, sb, sc, sd⟩, ksa, hsa⟩ := rx_form (.cls t)
  have HA := Lib.hid h
  rw [hsa] at h
  obtain ⟨_, hsok, al, cap, rfl, hcap, _, hrow⟩ := h
  simp only at HA ⊢
  simp only [Ex.rx] at hsa
  injection hsa with e1 e2 e3
  subst e1
  subst e3
  obtain ⟨nF, hnF⟩ : ∃ n : Nat, n = s.size + 1 := ⟨_, rfl⟩
  have hmk := make_bools nF (by omega)
  rw [show (nF : Int) = (s.size : Int) + 1 from by omega] at hmk
  have hsz : ((s.size : Int) < 0) = False := by simp
  subst e2
  rw [show (([] : List Rx).length) = 0 from rfl, show (((3 : Nat)) : Int) = 3 from rfl]
  clear hrow hcap HA
  obtain ⟨res, hres⟩ : ∃ z, z = endsL (.cls ⟨sa, sb, sc, sd⟩) s.data.toList l := ⟨_, rfl⟩
  rw [← hres]
  have HRES := Lib.hid hres
  obtain ⟨t, ht⟩ : ∃ t : Ws, t = ⟨sa, sb, sc, sd⟩ := ⟨_, rfl⟩
  have KH0 := Lib.hid fun (n : Nat) (hn : n < 256) W => refHas_any t n W (by rw [ht]; exact hsok) hn
  rw [show t.v = .agg #[.int .u64 sa, .int .u64 sb, .int .u64 sc, .int .u64 sd] from by rw [ht]; rfl] at KH0
  rw [← ht] at HRES
  have HNF := Lib.hid hnF
  have HL := Lib.hid hl
  clear hres ht hnF hl
  obtain ⟨gf, cf, rfl, hgf⟩ := bools_form h'
  rw [show l.length = nF from HL.out.trans HNF.out.symm] at h' ⊢
  obtain ⟨arr, harr⟩ : ∃ a, a = ((List.replicate nF false).map Value.bool).toArray := ⟨_, rfl⟩
  rw [← harr] at hmk
  obtain ⟨W, hW⟩ : ∃ x, x = (w.alloc (.cells #[.int .u8 3, .int .u64 sa, .int .u64 sb, .int .u64 sc, .int .u64 sd, .slice al 0 cap] 27)).alloc (.cells arr 4) := ⟨_, rfl⟩
  have BX := Lib.hid (show W.heap[w.heap.size]? = some (.cells #[.int .u8 3, .int .u64 sa, .int .u64 sb, .int .u64 sc, .int .u64 sd, .slice al 0 cap] 27) ∧ Below w.heap.size w W from by rw [hW]; exact ⟨(Below.heap_alloc _ _ _ (by simp)).trans (blk_new w _), al2 w _ _⟩)
  have hnz : nF ≤ 100001 := by have := HNF.out; omega
  have hFN : BoolsAt (fun g => w.heap.size + 1 ≤ g) W (.slice (some ⟨w.heap.size + 1, 0, none⟩) nF nF) (List.replicate nF false) := by
    have hN := bools_new (w.alloc (.cells #[.int .u8 3, .int .u64 sa, .int .u64 sb, .int .u64 sc, .int .u64 sd, .slice al 0 cap] 27)) (List.replicate nF false) (by simp [maxLen]; omega)
    rw [← harr, ← hW, List.length_replicate, show (w.alloc (.cells #[.int .u8 3, .int .u64 sa, .int .u64 sb, .int .u64 sc, .int .u64 sd, .slice al 0 cap] 27)).heap.size = w.heap.size + 1 from by simp] at hN
    exact hN
  have LCW := Lib.hid fun (i : Nat) (hi : i < l.length) => show w.cell? ⟨gf, i, none⟩ = some (.bool l[i]) from by
    obtain ⟨g, cap', cur, e1, _, e3, e4, e5⟩ := h'
    injection e1 with e1
    injection e1 with e1
    injection e1 with e1
    rw [e1]
    exact bool_cell e3 e5 i hi
  have HIN : Hid (clsInv9 w.heap.size t s l W (.slice (some ⟨w.heap.size + 1, 0, none⟩) nF nF) (.int .i64 ((0 : Nat) : Int)) W) := Lib.hid ⟨0, List.replicate nF false, Nat.zero_le _, rfl, by rw [HNF.out]; exact cls_zero t s l, hFN.imp fun g hg => by omega, Below.refl _ _⟩
  rw [show ((0 : Nat) : Int) = 0 from rfl] at HIN
  clear harr h' hFN
  go_enter Try.func46, Try.ntmps46
  go_wp2
  rw [← hW]
  clear hW
  go_loopw [7, 8] (fun v y wr => clsInv9 w.heap.size t s l W v y wr) (fun _ y _ => s.size - (intOf y).toNat)
  case atStart => exact HIN.out
  case round =>
    obtain ⟨i, m, hi, rfl, hm, hbm, hbr⟩ := hrel
    clear HIN
    generalize u7 = v at *
    have HM := Lib.hid hm
    have HBM := Lib.hid hbm
    have HBR := Lib.hid hbr
    clear hm hbm hbr
    by_cases hlt : i < s.size
    · have q1 : (i : Int) < (s.size : Int) := by omega
      have hil : i < l.length := by rw [HL.out]; omega
      have LC0 := LCW.out i hil
      have hql : l.getD i false = l[i] := by rw [List.getD_eq_getElem?_getD, List.getElem?_eq_getElem hil]; rfl
      generalize l[i] = q at *
      have WR := Lib.hid fun x (hx : Below wr.heap.size wr x) => BX.out.2.trans ((HBR.out.mono BX.out.2.size).trans (hx.mono (Nat.le_trans BX.out.2.size HBR.out.size)))
      have LC := Lib.hid fun x (hx : Below wr.heap.size wr x) => show x.cell? ⟨gf, i, none⟩ = some (.bool q) from ((WR.out x hx).cell (p := ⟨gf, i, none⟩) hgf).trans LC0
      have CX := Lib.hid fun x (hx : Below wr.heap.size wr x) => cellsR ((hx.block _ (Nat.lt_of_lt_of_le (Array.getElem?_eq_some_iff.1 BX.out.1).1 HBR.out.size)).trans ((HBR.out.block _ (Array.getElem?_eq_some_iff.1 BX.out.1).1).trans BX.out.1))
      have HQL := Lib.hid hql
      clear LC0 hql hil
      cases q with
      | false =>
        have H : ∀ x, Below wr.heap.size wr x → Hid (clsInv9 w.heap.size t s l W v (.int .i64 ((i + 1 : Nat) : Int)) x) := fun x hx => Lib.hid ⟨i + 1, m, hlt, rfl, cls_no HM.out hlt (fun h => by rw [HQL.out] at h; cases h.1), HBM.out.below hx, HBR.out.trans (hx.mono HBR.out.size)⟩
        have HH := Lib.hid H
        clear H HM HBM HBR HQL
        go_wp2_with fail
        refine wp_region_order (fun j => ([SP.eq (.slice (some ⟨gf, 0, none⟩) nF cf), SP.eq (.int .i64 i), SP.eq (.pointer (some ⟨gf, i, none⟩)), SP.eq (.bool false), SP.eq (.bool false), SP.free, SP.free, SP.free, SP.free, SP.free, SP.free, SP.free, SP.eq (.bool false)] : List SP).getD j SP.free) (by kernel_rfl) (by kernel_rfl) ⟨?_, ?_, ?_, ?_, ?_, ?_, ?_, ?_, ?_, ?_, ?_, ?_, ?_, trivial⟩ ?_
        · intro a x K out get hb hK
          rw [if_pos (wanted_none rfl)]
          have o2 : a.tmps[2]? = some (.slice (some ⟨gf, 0, none⟩) nF cf) := out 2 (by kernel_rfl)
          clear out get
          go_simp
          exact hK _ _ rfl (Below.refl _ _)
        · intro a x K out get hb hK
          rw [if_pos (wanted_none rfl)]
          have o8 : a.tmps[8]? = some (.int .i64 i) := out 8 (by kernel_rfl)
          clear out get
          go_simp
          exact hK _ _ rfl (Below.refl _ _)
        · intro a x K out get hb hK
          rw [if_pos (wanted_none rfl)]
          obtain ⟨y36, hy36, rfl⟩ := get 0 _ _ rfl rfl (by kernel_rfl)
          obtain ⟨y37, hy37, rfl⟩ := get 1 _ _ rfl rfl (by kernel_rfl)
          clear out get
          have hq2 : (i : Int) < (nF : Int) := by have := HNF.out; omega
          go_simp
          exact hK _ _ rfl (Below.refl _ _)
        · intro a x K out get hb hK
          rw [if_pos (wanted_none rfl)]
          obtain ⟨y38, hy38, rfl⟩ := get 2 _ _ rfl rfl (by kernel_rfl)
          clear out get
          have lc := LC.out x hb
          go_simp
          exact hK _ _ rfl (Below.refl _ _)
        · intro a x K out get hb hK
          rw [if_pos (wanted_none rfl)]
          obtain ⟨y39, hy39, rfl⟩ := get 3 _ _ rfl rfl (by kernel_rfl)
          clear out get
          go_simp
          exact hK _ _ rfl (Below.refl _ _)
        · intro a x K out get hb hK
          obtain ⟨yg, hyg, rfl⟩ := get 4 _ _ rfl rfl (by kernel_rfl)
          rw [if_neg (by rw [wanted_bool rfl rfl rfl hyg]; decide)]
          exact hK _ _ trivial (Below.refl _ _)
        · intro a x K out get hb hK
          obtain ⟨yg, hyg, rfl⟩ := get 4 _ _ rfl rfl (by kernel_rfl)
          rw [if_neg (by rw [wanted_bool rfl rfl rfl hyg]; decide)]
          exact hK _ _ trivial (Below.refl _ _)
        · intro a x K out get hb hK
          obtain ⟨yg, hyg, rfl⟩ := get 4 _ _ rfl rfl (by kernel_rfl)
          rw [if_neg (by rw [wanted_bool rfl rfl rfl hyg]; decide)]
          exact hK _ _ trivial (Below.refl _ _)
        · intro a x K out get hb hK
          obtain ⟨yg, hyg, rfl⟩ := get 4 _ _ rfl rfl (by kernel_rfl)
          rw [if_neg (by rw [wanted_bool rfl rfl rfl hyg]; decide)]
          exact hK _ _ trivial (Below.refl _ _)
        · intro a x K out get hb hK
          obtain ⟨yg, hyg, rfl⟩ := get 4 _ _ rfl rfl (by kernel_rfl)
          rw [if_neg (by rw [wanted_bool rfl rfl rfl hyg]; decide)]
          exact hK _ _ trivial (Below.refl _ _)
        · intro a x K out get hb hK
          obtain ⟨yg, hyg, rfl⟩ := get 4 _ _ rfl rfl (by kernel_rfl)
          rw [if_neg (by rw [wanted_bool rfl rfl rfl hyg]; decide)]
          exact hK _ _ trivial (Below.refl _ _)
        · intro a x K out get hb hK
          obtain ⟨yg, hyg, rfl⟩ := get 4 _ _ rfl rfl (by kernel_rfl)
          rw [if_neg (by rw [wanted_bool rfl rfl rfl hyg]; decide)]
          exact hK _ _ trivial (Below.refl _ _)
        · intro a x K out get hb hK
          rw [if_pos (wanted_none rfl)]
          obtain ⟨y40, hy40, rfl⟩ := get 4 _ _ rfl rfl (by kernel_rfl)
          obtain ⟨y47, hy47, -⟩ := get 11 _ _ rfl rfl (by kernel_rfl)
          clear out get
          go_simp
          exact hK _ _ rfl (Below.refl _ _)
        refine ao_fin (isD := fun s => decide (36 ≤ s) && decide (s ≤ 48)) (by kernel_rfl) ?_
        intro f x hv hb
        have h48 : f 48 = .bool false := hv 12 _ _ rfl rfl
        have HBX := Lib.hid hb
        clear hv
        generalize hF : (Act.mk (List.toArray (frm f _ 0 _)) _) = fr
        simp [frm] at hF
        rw [h48] at hF
        subst hF
        generalize f 36 = u36 at *
        generalize f 37 = u37 at *
        generalize f 38 = u38 at *
        generalize f 39 = u39 at *
        generalize f 40 = u40 at *
        generalize f 41 = u41 at *
        generalize f 42 = u42 at *
        generalize f 43 = u43 at *
        generalize f 44 = u44 at *
        generalize f 45 = u45 at *
        generalize f 46 = u46 at *
        generalize f 47 = u47 at *
        clear h48 f hb
        have HX := Lib.hid (HH.out x HBX.out)
        clear HH HBX
        go_wp2
        exact ⟨by simpa using HX.out.out, by simp [intOf]; omega⟩
      | true =>
        have KH := Lib.hid fun x => KH0.out s[i].toNat s[i].toNat_lt x
        obtain ⟨p, hp⟩ : ∃ p, p = t.has s[i].toNat := ⟨_, rfl⟩
        rw [← hp] at KH
        have hnx : i + 1 < m.length := by rw [HM.out.1]; omega
        have hml : m.length ≤ 1000000 := by rw [HM.out.1]; omega
        have KM := Lib.hid fun x (hx : Below wr.heap.size wr x) => mark_any m (i + 1) v x hnx hml (HBM.out.below hx)
        rw [show (((i + 1 : Nat)) : Int) = (i : Int) + 1 from by simp] at KM
        have H1 : ∀ x, p = false → Below wr.heap.size wr x → Hid (clsInv9 w.heap.size t s l W v (.int .i64 ((i + 1 : Nat) : Int)) x) := fun x hpf hx => Lib.hid ⟨i + 1, m, hlt, rfl, cls_no HM.out hlt (fun h => by rw [← hp, hpf] at h; cases h.2), HBM.out.below hx, HBR.out.trans (hx.mono HBR.out.size)⟩
        have H2 : ∀ x v', p = true → Below wr.heap.size wr x → BoolsAt (fun g => wr.heap.size ≤ g) x v' (m.set (i + 1) true) → Hid (clsInv9 w.heap.size t s l W v' (.int .i64 ((i + 1 : Nat) : Int)) x) := fun x v' hpt hx hv => Lib.hid ⟨i + 1, _, hlt, rfl, cls_yes HM.out hlt HQL.out (by rw [← hp, hpt]), hv.imp fun g hg => Nat.le_trans (Nat.le_trans BX.out.2.size HBR.out.size) hg, HBR.out.trans (hx.mono HBR.out.size)⟩
        have HH1 := Lib.hid H1
        have HH2 := Lib.hid H2
        clear H1 H2 HM HBM HBR HQL hp hnx hml
        go_wp2_with fail
        refine wp_region_order (fun j => ([SP.eq (.slice (some ⟨gf, 0, none⟩) nF cf), SP.eq (.int .i64 i), SP.eq (.pointer (some ⟨gf, i, none⟩)), SP.eq (.bool true), SP.eq (.bool true), SP.eq (.pointer (some ⟨w.heap.size, 1, none⟩)), SP.eq (.agg #[.int .u64 sa, .int .u64 sb, .int .u64 sc, .int .u64 sd]), SP.eq (.string s), SP.eq (.int .i64 i), SP.eq (.int .u8 (s[i]'hlt).toNat), SP.eq (.int .i64 (s[i]'hlt).toNat), SP.eq (.bool p), SP.eq (.bool p)] : List SP).getD j SP.free) (by kernel_rfl) (by kernel_rfl) ⟨?_, ?_, ?_, ?_, ?_, ?_, ?_, ?_, ?_, ?_, ?_, ?_, ?_, trivial⟩ ?_
        · intro a x K out get hb hK
          rw [if_pos (wanted_none rfl)]
          have o2 : a.tmps[2]? = some (.slice (some ⟨gf, 0, none⟩) nF cf) := out 2 (by kernel_rfl)
          clear out get
          go_simp
          exact hK _ _ rfl (Below.refl _ _)
        · intro a x K out get hb hK
          rw [if_pos (wanted_none rfl)]
          have o8 : a.tmps[8]? = some (.int .i64 i) := out 8 (by kernel_rfl)
          clear out get
          go_simp
          exact hK _ _ rfl (Below.refl _ _)
        · intro a x K out get hb hK
          rw [if_pos (wanted_none rfl)]
          obtain ⟨y36, hy36, rfl⟩ := get 0 _ _ rfl rfl (by kernel_rfl)
          obtain ⟨y37, hy37, rfl⟩ := get 1 _ _ rfl rfl (by kernel_rfl)
          clear out get
          have hq2 : (i : Int) < (nF : Int) := by have := HNF.out; omega
          go_simp
          exact hK _ _ rfl (Below.refl _ _)
        · intro a x K out get hb hK
          rw [if_pos (wanted_none rfl)]
          obtain ⟨y38, hy38, rfl⟩ := get 2 _ _ rfl rfl (by kernel_rfl)
          clear out get
          have lc := LC.out x hb
          go_simp
          exact hK _ _ rfl (Below.refl _ _)
        · intro a x K out get hb hK
          rw [if_pos (wanted_none rfl)]
          obtain ⟨y39, hy39, rfl⟩ := get 3 _ _ rfl rfl (by kernel_rfl)
          clear out get
          go_simp
          exact hK _ _ rfl (Below.refl _ _)
        · intro a x K out get hb hK
          obtain ⟨yg, hyg, rfl⟩ := get 4 _ _ rfl rfl (by kernel_rfl)
          rw [if_pos (by rw [wanted_bool rfl rfl rfl hyg]; rfl)]
          clear hyg
          have o3 : a.tmps[3]? = some (.pointer (some ⟨w.heap.size, 0, none⟩)) := out 3 (by kernel_rfl)
          clear out get
          go_simp
          exact hK _ _ rfl (Below.refl _ _)
        · intro a x K out get hb hK
          obtain ⟨yg, hyg, rfl⟩ := get 4 _ _ rfl rfl (by kernel_rfl)
          rw [if_pos (by rw [wanted_bool rfl rfl rfl hyg]; rfl)]
          clear hyg
          obtain ⟨y41, hy41, rfl⟩ := get 5 _ _ rfl rfl (by kernel_rfl)
          clear out get
          obtain ⟨c0, c1, c2, c3, c4, c5, -⟩ := CX.out x hb
          go_simp
          exact hK _ _ rfl (Below.refl _ _)
        · intro a x K out get hb hK
          obtain ⟨yg, hyg, rfl⟩ := get 4 _ _ rfl rfl (by kernel_rfl)
          rw [if_pos (by rw [wanted_bool rfl rfl rfl hyg]; rfl)]
          clear hyg
          have o1 : a.tmps[1]? = some (.string s) := out 1 (by kernel_rfl)
          clear out get
          go_simp
          exact hK _ _ rfl (Below.refl _ _)
        · intro a x K out get hb hK
          obtain ⟨yg, hyg, rfl⟩ := get 4 _ _ rfl rfl (by kernel_rfl)
          rw [if_pos (by rw [wanted_bool rfl rfl rfl hyg]; rfl)]
          clear hyg
          have o8 : a.tmps[8]? = some (.int .i64 i) := out 8 (by kernel_rfl)
          clear out get
          go_simp
          exact hK _ _ rfl (Below.refl _ _)
        · intro a x K out get hb hK
          obtain ⟨yg, hyg, rfl⟩ := get 4 _ _ rfl rfl (by kernel_rfl)
          rw [if_pos (by rw [wanted_bool rfl rfl rfl hyg]; rfl)]
          clear hyg
          obtain ⟨y43, hy43, rfl⟩ := get 7 _ _ rfl rfl (by kernel_rfl)
          obtain ⟨y44, hy44, rfl⟩ := get 8 _ _ rfl rfl (by kernel_rfl)
          clear out get
          have hix : (0 : Int) ≤ (i : Int) ∧ (i : Int) < (s.size : Int) := ⟨by omega, by omega⟩
          go_simp
          exact hK _ _ rfl (Below.refl _ _)
        · intro a x K out get hb hK
          obtain ⟨yg, hyg, rfl⟩ := get 4 _ _ rfl rfl (by kernel_rfl)
          rw [if_pos (by rw [wanted_bool rfl rfl rfl hyg]; rfl)]
          clear hyg
          obtain ⟨y45, hy45, rfl⟩ := get 9 _ _ rfl rfl (by kernel_rfl)
          clear out get
          have hcv : IntKind.i64.wrap ((s[i].toNat : Nat) : Int) = (s[i].toNat : Int) := by have := s[i].toNat_lt; rw [IntKind.wrap_i64]; omega
          go_simp
          exact hK _ _ rfl (Below.refl _ _)
        · intro a x K out get hb hK
          obtain ⟨yg, hyg, rfl⟩ := get 4 _ _ rfl rfl (by kernel_rfl)
          rw [if_pos (by rw [wanted_bool rfl rfl rfl hyg]; rfl)]
          clear hyg
          obtain ⟨y42, hy42, rfl⟩ := get 6 _ _ rfl rfl (by kernel_rfl)
          obtain ⟨y46, hy46, rfl⟩ := get 10 _ _ rfl rfl (by kernel_rfl)
          clear out get
          go_simp
          refine (KH.out x).mono ?_
          rintro e w2 ⟨rfl, hb2⟩
          exact hK _ _ rfl hb2
        · intro a x K out get hb hK
          rw [if_pos (wanted_none rfl)]
          obtain ⟨y40, hy40, rfl⟩ := get 4 _ _ rfl rfl (by kernel_rfl)
          obtain ⟨y47, hy47, rfl⟩ := get 11 _ _ rfl rfl (by kernel_rfl)
          clear out get
          go_simp
          exact hK _ _ rfl (Below.refl _ _)
        refine ao_fin (isD := fun s => decide (36 ≤ s) && decide (s ≤ 48)) (by kernel_rfl) ?_
        intro f x hv hb
        have h48 : f 48 = .bool p := hv 12 _ _ rfl rfl
        have HBX := Lib.hid hb
        clear hv
        generalize hF : (Act.mk (List.toArray (frm f _ 0 _)) _) = fr
        simp [frm] at hF
        rw [h48] at hF
        subst hF
        generalize f 36 = u36 at *
        generalize f 37 = u37 at *
        generalize f 38 = u38 at *
        generalize f 39 = u39 at *
        generalize f 40 = u40 at *
        generalize f 41 = u41 at *
        generalize f 42 = u42 at *
        generalize f 43 = u43 at *
        generalize f 44 = u44 at *
        generalize f 45 = u45 at *
        generalize f 46 = u46 at *
        generalize f 47 = u47 at *
        clear h48 f hb
        cases p with
        | false =>
          have HX := Lib.hid (HH1.out x (by trivial) HBX.out)
          clear HH1 HH2 HBX KM
          go_wp2
          exact ⟨by simpa using HX.out.out, by simp [intOf]; omega⟩
        | true =>
          have KM2 := Lib.hid (KM.out x HBX.out)
          clear KM
          go_wp2_with fail
          refine KM2.out.mono ?_
          rintro e x2 ⟨v2, rfl, hv2, hb2⟩
          have HX := Lib.hid (HH2.out x2 v2 (by trivial) (HBX.out.trans (hb2.mono HBX.out.size)) (hv2.imp fun g hg => Nat.le_trans HBX.out.size hg))
          clear HH1 HH2 HBX KM2 hv2 hb2
          go_wp2
          exact ⟨by simpa using HX.out.out, by simp [intOf]; omega⟩
    · have hin : i = s.size := by omega
      subst hin
      have hres : res = m := HRES.out.trans (cls_all HM.out).symm
      have q1 : ¬ (s.size : Int) < (s.size : Int) := by omega
      subst hres
      have HB := Lib.hid (BX.out.2.trans (HBR.out.mono BX.out.2.size))
      clear HM HRES HBR hlt
      go_wp2
      go_ret
      exact ⟨_, rfl, .inl HBM.out, HB.out⟩
open Go.RowKit
def orB (n i : Nat) (A N : List Bool) : List Bool := (List.range n).map fun j => A.getD j false || (decide (j < i) && N.getD j false)
theorem orB_len (n i : Nat) (A N : List Bool) : (orB n i A N).length = n := by simp [orB]
theorem orB_at {n i : Nat} {A N : List Bool} {j : Nat} (h : j < n) : (orB n i A N).getD j false = (A.getD j false || (decide (j < i) && N.getD j false)) := by
  simp [orB, List.getD_eq_getElem?_getD, h]
theorem orB_zero {n : Nat} {A : List Bool} (N : List Bool) (h : A.length = n) : orB n 0 A N = A := by
  refine List.ext_getElem (by rw [orB_len, h]) fun j h1 h2 => ?_
  simp [orB, List.getD_eq_getElem?_getD, h2]
theorem orB_same {n i : Nat} {A N : List Bool} (h : (N.getD i false && !A.getD i false) = false) : orB n i A N = orB n (i + 1) A N := by
  refine List.ext_getElem (by rw [orB_len, orB_len]) fun j h1 h2 => ?_
  simp only [orB, List.getElem_map, List.getElem_range]
  by_cases hj : j = i
  · subst hj
    cases hA : A.getD j false <;> cases hN : N.getD j false <;> simp_all
  · have : decide (j < i) = decide (j < i + 1) := by simp; omega
    rw [this]
theorem orB_set {n i : Nat} {A N : List Bool} (h : (N.getD i false && !A.getD i false) = true) : (orB n i A N).set i true = orB n (i + 1) A N := by
  simp only [Bool.and_eq_true] at h
  refine List.ext_getElem (by rw [List.length_set, orB_len, orB_len]) fun j h1 h2 => ?_
  rw [List.getElem_set]
  simp only [orB, List.getElem_map, List.getElem_range]
  by_cases hj : i = j
  · subst hj
    rw [if_pos rfl, h.1]
    simp
  · rw [if_neg hj]
    have : decide (j < i) = decide (j < i + 1) := by simp; omega
    rw [this]
def moreB (i : Nat) (A N : List Bool) : Bool := (List.range i).any fun j => N.getD j false && !A.getD j false
theorem moreB_succ (i : Nat) (A N : List Bool) : moreB (i + 1) A N = (moreB i A N || (N.getD i false && !A.getD i false)) := by
  unfold moreB
  rw [List.range_succ, List.any_append]
  simp
def fls (l : List Bool) : Nat := l.countP (fun b => !b)
theorem fls_le : ∀ (A C : List Bool), A.length = C.length → (∀ j, A.getD j false = true → C.getD j false = true) → fls C ≤ fls A
  | [], [], _, _ => Nat.le_refl _
  | a :: A, c :: C, h, hh => by
    have ih := fls_le A C (by simpa using h) (fun j hj => by have := hh (j + 1); simpa using this (by simpa using hj))
    have h0 := hh 0
    unfold fls at ih ⊢
    simp only [List.countP_cons]
    cases a <;> cases c <;> simp_all <;> omega
theorem fls_lt : ∀ (A C : List Bool), A.length = C.length → (∀ j, A.getD j false = true → C.getD j false = true) → (∃ j, C.getD j false = true ∧ A.getD j false = false) → fls C < fls A
  | [], [], _, _, ⟨j, h, _⟩ => by simp at h
  | a :: A, c :: C, h, hh, ⟨j, hc, ha⟩ => by
    have hle := fls_le A C (by simpa using h) (fun j hj => by have := hh (j + 1); simpa using this (by simpa using hj))
    cases j with
    | zero =>
      have e1 : c = true := by simpa using hc
      have e2 : a = false := by simpa using ha
      subst e1 e2
      unfold fls at hle ⊢
      simp only [List.countP_cons]
      simp
      omega
    | succ j =>
      have ih := fls_lt A C (by simpa using h) (fun j hj => by have := hh (j + 1); simpa using this (by simpa using hj)) ⟨j, by simpa using hc, by simpa using ha⟩
      have h0 := hh 0
      unfold fls at ih ⊢
      simp only [List.countP_cons]
      cases a <;> cases c <;> simp_all <;> omega
def isFalse (v : Value) : Bool := match v with
  | .bool false => true
  | _ => false
def flsW (w : World) (g n : Nat) : Nat := match w.heap[g]? with
  | some (.cells cur _ _) => (cur.toList.take n).countP isFalse
  | _ => 0
theorem flsW_of {w : World} {g cap : Nat} {A : List Bool} (h : BoolsAt (fun b => b = g) w (.slice (some ⟨g, 0, none⟩) A.length cap) A) : flsW w g A.length = fls A := by
  obtain ⟨g', cap', cur, e, rfl, h3, h4, h5⟩ := h
  unfold flsW
  rw [h3]
  simp only [h5]
  unfold fls
  rw [List.countP_map]
  congr 1
  funext b
  cases b <;> rfl
def StarS (a : Ex) (s : ByteArray) (l A : List Bool) : Prop := A.length = s.size + 1 ∧ (∀ j, l.getD j false = true → A.getD j false = true) ∧ (∀ j, A.getD j false = true → EndsP (.star a) s.data.toList (fun i => l.getD i false = true) j)
theorem star_start {a : Ex} {s : ByteArray} {l : List Bool} (hl : l.length = s.size + 1) : StarS a s l l := by
  refine ⟨hl, fun _ h => h, fun j h => ?_⟩
  have hj : j ≤ s.data.toList.length := by
    rw [dlen]
    rcases Nat.lt_or_ge j l.length with h' | h'
    · omega
    · rw [List.getD_eq_getElem?_getD, List.getElem?_eq_none h'] at h; cases h
  exact ends_from hj h
theorem getD_lt {m : List Bool} {j : Nat} (h : m.getD j false = true) : j < m.length := by
  rcases Nat.lt_or_ge j m.length with h' | h'
  · exact h'
  · rw [List.getD_eq_getElem?_getD, List.getElem?_eq_none h'] at h; cases h
theorem star_step {a : Ex} {s : ByteArray} {l A : List Bool} (h : StarS a s l A) : StarS a s l (orB (s.size + 1) (s.size + 1) A (endsL a s.data.toList A)) := by
  obtain ⟨h1, h2, h3⟩ := h
  refine ⟨orB_len _ _ _ _, fun j hj => ?_, fun j hj => ?_⟩
  · have := h2 j hj
    have hlt := getD_lt this
    rw [orB_at (by omega), this, Bool.true_or]
  · have hlt := getD_lt hj
    rw [orB_len] at hlt
    rw [orB_at hlt] at hj
    simp only [Bool.or_eq_true, Bool.and_eq_true, decide_eq_true_eq] at hj
    rcases hj with hj | hj
    · exact h3 j hj
    · exact ends_more (ends_mono (fun i hi => h3 i hi) ((endsL_at a s.data.toList A j).1 hj.2))
theorem star_none {s : ByteArray} {A N : List Bool} (hA : A.length = s.size + 1) (hm : moreB (s.size + 1) A N = false) : orB (s.size + 1) (s.size + 1) A N = A ∧ ∀ j, j < s.size + 1 → N.getD j false = true → A.getD j false = true := by
  have hc : ∀ j, j < s.size + 1 → N.getD j false = true → A.getD j false = true := fun j hj hN => by
    have := (List.any_eq_false.1 hm) j (List.mem_range.2 hj)
    rw [hN] at this
    simpa using this
  refine ⟨List.ext_getElem (by rw [orB_len, hA]) fun j h1 h2 => ?_, hc⟩
  rw [orB_len] at h1
  have e := orB_at (i := s.size + 1) (A := A) (N := N) h1
  rw [List.getD_eq_getElem?_getD, List.getElem?_eq_getElem (by rw [orB_len]; exact h1)] at e
  simp only [Option.getD_some] at e
  rw [e]
  have e2 : A.getD j false = A[j] := by rw [List.getD_eq_getElem?_getD, List.getElem?_eq_getElem h2]; rfl
  have := hc j h1
  rw [e2] at this ⊢
  cases hA' : A[j] <;> cases hN : N.getD j false <;> simp_all
theorem star_count {s : ByteArray} {A N : List Bool} (hA : A.length = s.size + 1) (hm : moreB (s.size + 1) A N = true) : fls (orB (s.size + 1) (s.size + 1) A N) < fls A := by
  obtain ⟨j, hj, h⟩ := List.any_eq_true.1 hm
  have hj' := List.mem_range.1 hj
  simp only [Bool.and_eq_true] at h
  refine fls_lt _ _ (by rw [orB_len, hA]) (fun k hk => ?_) ⟨j, ?_, by simpa using h.2⟩
  · have := getD_lt hk
    rw [orB_at (by omega), hk, Bool.true_or]
  · rw [orB_at hj', h.1]
    simp [hj']
theorem star_done {a : Ex} {s : ByteArray} {l A : List Bool} (h : StarS a s l A) (hc : ∀ j, j < s.size + 1 → (endsL a s.data.toList A).getD j false = true → A.getD j false = true) : A = endsL (.star a) s.data.toList l := by
  refine bools_ext (n := s.size + 1) h.1 (endsL_sz _ _ _) fun j hj => ?_
  rw [endsL_at]
  refine ⟨h.2.2 j, fun he => ?_⟩
  refine ends_least (G := fun j => A.getD j false = true) (fun i _ hi => h.2.1 i hi) (fun i hi => ?_) he
  have hi' : i ≤ s.data.toList.length := hi.1
  rw [dlen] at hi'
  exact hc i (by omega) ((endsL_at a s.data.toList A i).2 hi)
theorem endsL_star2 (c : Ex) (s : List UInt8) (l : List Bool) : endsL (.star (.star c)) s l = endsL (.star c) s l := by
  refine bools_ext (n := s.length + 1) (endsL_len _ _ _) (endsL_len _ _ _) fun j _ => ?_
  rw [endsL_at, endsL_at, ends_star_star]
theorem bools_at {ok : Nat → Prop} {w : World} {g n c : Nat} {l : List Bool} (h : BoolsAt ok w (.slice (some ⟨g, 0, none⟩) n c) l) : ok g ∧ n = l.length ∧ BoolsAt (fun b => b = g) w (.slice (some ⟨g, 0, none⟩) n c) l := by
  obtain ⟨g', cap, cur, e, h2, h3⟩ := id h
  have e0 := e
  injection e with e1 e2 e3
  injection e1 with e1
  injection e1 with e1
  subst e1
  exact ⟨h2, e2, g, cap, cur, e0, rfl, h3⟩
theorem bools_in {ok : Nat → Prop} {w : World} {g n c : Nat} {l : List Bool} (h : BoolsAt ok w (.slice (some ⟨g, 0, none⟩) n c) l) : g < w.heap.size := by
  obtain ⟨g', cap, cur, e, _, h3, _⟩ := h
  injection e with e1
  injection e1 with e1
  injection e1 with e1
  subst e1
  exact (Array.getElem?_eq_some_iff.1 h3).1
theorem bools_flsW {w : World} {g c n : Nat} {A : List Bool} (h : BoolsAt (fun b => b = g) w (.slice (some ⟨g, 0, none⟩) n c) A) (e : A.length = n) : flsW w g n = fls A := by
  subst e
  exact flsW_of h
def onB (v : Value) : Nat := match v with
  | .bool true => 1
  | _ => 0
def RdAB9 (A N : List Bool) (gA cA gN nF : Nat) (x : World) : Prop := ∀ (wr : World) (i : Nat), SavB gA x wr → BoolsAt (fun b => b = gA) wr (.slice (some ⟨gA, 0, none⟩) nF cA) (orB nF i A N) → i < nF → wr.cell? ⟨gN, i, none⟩ = some (.bool (N.getD i false)) ∧ wr.cell? ⟨gA, i, none⟩ = some (.bool (A.getD i false)) ∧ wr.frozen? ⟨gA, i, none⟩ = false
theorem rd_all {wr : World} {A N : List Bool} {gA cA nF i : Nat} (h : BoolsAt (fun b => b = gA) wr (.slice (some ⟨gA, 0, none⟩) nF cA) (orB nF i A N)) (hi : i < nF) : wr.cell? ⟨gA, i, none⟩ = some (.bool (A.getD i false)) ∧ wr.frozen? ⟨gA, i, none⟩ = false := by
  obtain ⟨g', cap, cur, e, rfl, h3, h4, h5⟩ := h
  refine ⟨?_, Lib.frozen_of_heap h3 i⟩
  have hl : i < (orB nF i A N).length := by rw [orB_len]; exact hi
  rw [bool_cell h3 h5 i hl]
  have e := orB_at (i := i) (A := A) (N := N) hi
  rw [List.getD_eq_getElem?_getD, List.getElem?_eq_getElem hl] at e
  simp only [Option.getD_some] at e
  rw [e]
  simp
theorem rd_new {x : World} {A N : List Bool} {gA cA gN cN nF : Nat} (hN : N.length = nF) (h : BoolsAt (fun b => b ≠ gA) x (.slice (some ⟨gN, 0, none⟩) N.length cN) N) : RdAB9 A N gA cA gN nF x := fun wr i hs hb hi => by
  have hi' : i < N.length := by omega
  have e : N.getD i false = N[i] := by rw [List.getD_eq_getElem?_getD, List.getElem?_eq_getElem hi']; rfl
  exact ⟨by rw [e]; exact bool_but h hs i hi', rd_all hb hi⟩
theorem rd_same {x : World} {A : List Bool} {gA cA nF : Nat} : RdAB9 A A gA cA gA nF x := fun _ _ _ hb hi => ⟨(rd_all hb hi).1, rd_all hb hi⟩
def starInv9 (a : Ex) (s : ByteArray) (l : List Bool) (gA cA nF : Nat) (B : Nat) (W : World) (y : Value) (wr : World) : Prop := ∃ (A : List Bool) (more : Bool), y = .bool more ∧ StarS a s l A ∧ (more = false → ∀ j, j < s.size + 1 → (endsL a s.data.toList A).getD j false = true → A.getD j false = true) ∧ BoolsAt (fun b => b = gA) wr (.slice (some ⟨gA, 0, none⟩) nF cA) A ∧ Below B W wr
def inInv9 (A N : List Bool) (gA cA nF B : Nat) (W x : World) (y k : Value) (wr : World) : Prop := ∃ i : Nat, i ≤ nF ∧ k = .int .i64 i ∧ y = .bool (moreB i A N) ∧ BoolsAt (fun b => b = gA) wr (.slice (some ⟨gA, 0, none⟩) nF cA) (orB nF i A N) ∧ SavB gA x wr ∧ Below B W wr
set_option maxHeartbeats 4000000 in
set_option maxRecDepth 100000 in
theorem endsStar {a : Ex} (ha : EndsF a) (ok ok' : Nat → Prop) (s : ByteArray) (l : List Bool) (v vf : Value) (w : World) (hz : s.size ≤ 100000) (hl : l.length = s.size + 1) (h : ReAt ok w v (Ex.rx (.star a))) (h' : BoolsAt ok' w vf l) :
    Calls Try.prog 46 #[v, .string s, vf] w (EndsPost (endsL (.star a) s.data.toList l) vf l w) := by
  obtain ⟨ka, ⟨sa, sb, sc, sd⟩, ksa, hsa⟩ := rx_form (.star a)
  have HA := Lib.hid h
  rw [hsa] at h
  obtain ⟨_, hsok, al, cap, rfl, hcap, _, hrow⟩ := h
  simp only at HA ⊢
  simp only [Ex.rx] at hsa
  injection hsa with e1 e2 e3
  subst e1
  subst e3
  obtain ⟨nF, hnF⟩ : ∃ n : Nat, n = s.size + 1 := ⟨_, rfl⟩
  have hmk := make_bools nF (by omega)
  rw [show (nF : Int) = (s.size : Int) + 1 from by omega] at hmk
  have hsz : ((s.size : Int) < 0) = False := by simp
  obtain ⟨bk, off, rfl, hlt, hn0⟩ := hrow.kid (i := 0) (by simp)
  simp only [List.getElem_cons_zero, Nat.zero_mul, Nat.add_zero] at hn0
  obtain ⟨kc, ⟨ca, cb, cc, cd⟩, ksc, hsc⟩ := rx_form a
  rw [hsc] at hn0
  obtain ⟨al0, cap0, ⟨i0, i1, i2, i3, i4, i5⟩, hrc⟩ := hn0.read
  simp only at i0 i1 i2 i3 i4 i5
  rw [← hsc] at hrc
  have I6 := Lib.hid (show w.cell? ⟨bk, off, none⟩ = some (.int .u8 kc) ∧ w.cell? ⟨bk, off + 1, none⟩ = some (.int .u64 ca) ∧ w.cell? ⟨bk, off + 2, none⟩ = some (.int .u64 cb) ∧ w.cell? ⟨bk, off + 3, none⟩ = some (.int .u64 cc) ∧ w.cell? ⟨bk, off + 4, none⟩ = some (.int .u64 cd) ∧ w.cell? ⟨bk, off + 5, none⟩ = some (.slice al0 ksc.length cap0) from ⟨i0, i1, i2, i3, i4, i5⟩)
  have HRC := Lib.hid hrc
  clear i0 i1 i2 i3 i4 i5 hn0 hrc
  have hcap1 : 1 ≤ cap := by simpa using hcap
  have hlen : [a.rx].length = 1 := rfl
  rw [hlen, show (((6 : Nat) : Int)) = 6 from rfl]
  clear hlen hrow hcap e2 HA
  have KA0 := Lib.hid fun W (hb : Below w.heap.size w W) (m : List Bool) y (hm : m.length = s.size + 1) (ok' : Nat → Prop) (h2 : BoolsAt ok' W y m) => ha ok ok' s m _ y W hz hm (HRC.out.below hb) h2
  obtain ⟨res, hres⟩ : ∃ z, z = endsL (.star a) s.data.toList l := ⟨_, rfl⟩
  rw [← hres]
  have HRES := Lib.hid hres
  have HNF := Lib.hid hnF
  have HL := Lib.hid hl
  have hnz : nF ≤ 100001 := by omega
  have HSC := Lib.hid hsc
  clear hres ha hnF hl hsc
  obtain ⟨gf, cf, rfl, hgf⟩ := bools_form h'
  rw [show l.length = nF from HL.out.trans HNF.out.symm] at h' ⊢
  have LCW := Lib.hid fun (i : Nat) (hi : i < l.length) => show w.cell? ⟨gf, i, none⟩ = some (.bool l[i]) from by
    obtain ⟨g, cap', cur, e1, _, e3, e4, e5⟩ := h'
    injection e1 with e1
    injection e1 with e1
    injection e1 with e1
    rw [e1]
    exact bool_cell e3 e5 i hi
  obtain ⟨arr, harr⟩ : ∃ a, a = ((List.replicate nF false).map Value.bool).toArray := ⟨_, rfl⟩
  rw [← harr] at hmk
  obtain ⟨W, hW⟩ : ∃ x, x = (w.alloc (.cells #[.int .u8 6, .int .u64 sa, .int .u64 sb, .int .u64 sc, .int .u64 sd, .slice (some ⟨bk, off, none⟩) 1 cap] 27)).alloc (.cells arr 4) := ⟨_, rfl⟩
  have BX := Lib.hid (show W.heap[w.heap.size]? = some (.cells #[.int .u8 6, .int .u64 sa, .int .u64 sb, .int .u64 sc, .int .u64 sd, .slice (some ⟨bk, off, none⟩) 1 cap] 27) ∧ Below w.heap.size w W from by rw [hW]; exact ⟨(Below.heap_alloc _ _ _ (by simp)).trans (blk_new w _), al2 w _ _⟩)
  have hsW : w.heap.size + 1 + 1 = W.heap.size := by rw [hW]; simp
  have HF := Lib.hid (h'.below BX.out.2)
  have C6W := Lib.hid (six_keep hlt I6.out BX.out.2)
  have HW := Lib.hid hW
  obtain ⟨m0, m1, m2, m3, m4, m5⟩ := C6W.out
  obtain ⟨b0, b1, b2, b3, b4, b5, -⟩ := cellsR BX.out.1
  rw [hW] at m0 m1 m2 m3 m4 m5 b0 b1 b2 b3 b4 b5
  clear harr h' hW
  by_cases hk : kc = 6
  · have hst : ∃ c, a = .star c := by
      have := HSC.out
      cases a with
      | star c => exact ⟨c, rfl⟩
      | empty => simp [Ex.rx] at this; omega
      | eps => simp [Ex.rx] at this; omega
      | cls t => simp [Ex.rx] at this; omega
      | seq x y => simp [Ex.rx] at this; omega
      | alt x y => simp [Ex.rx] at this; omega
    obtain ⟨c, rfl⟩ := hst
    have he : res = endsL (.star c) s.data.toList l := HRES.out.trans (endsL_star2 c _ _)
    have KA := Lib.hid (KA0.out W BX.out.2 l _ HL.out _ HF.out)
    rw [← he, hk] at KA
    rw [hk] at m0
    have HB := Lib.hid BX.out.2
    clear he HRES HSC KA0 I6 HRC C6W hk BX HF LCW HL HNF
    go_enter Try.func46, Try.ntmps46
    go_wp2_with fail
    rw [← HW.out]
    refine KA.out.mono ?_
    rintro e w1 ⟨v1, rfl, hv1, hb1⟩
    have HV := Lib.hid (show BoolsAt (fun g => w.heap.size ≤ g) w1 v1 res ∨ (v1 = .slice (some ⟨gf, 0, none⟩) nF cf ∧ res = l) from hv1.elim (fun h => .inl (h.imp fun g hg => Nat.le_trans HB.out.size hg)) .inr)
    have HB1 := Lib.hid (HB.out.trans (hb1.mono HB.out.size))
    clear hv1 hb1 HB KA HW m0 m1 m2 m3 m4 m5 b0 b1 b2 b3 b4 b5
    go_wp2
    go_ret
    exact ⟨_, rfl, HV.out, HB1.out⟩
  · have hk2 : ((kc : Int) == 6) = false := by simp; omega
    obtain ⟨i0, hi0, hz0, hz1, hz2⟩ := info_parts infoBl
    have hz2' := Lib.hid hz2
    have hown : (W.alloc (.cells #[] 4)).ownsRow W.heap.size 4 1 (.slice (some ⟨W.heap.size, 0, none⟩) 0 0) 0 [] := ⟨rfl, .inr ⟨W.heap.size, 0, #[], rfl, Nat.le_refl _, blk_new W _, Nat.le_refl _, Nat.zero_le _, rfl, rfl⟩⟩
    have hlf : l.length = nF := HL.out.trans HNF.out.symm
    have hHC : ∀ (j : Nat) (u : Value), (l.map Value.bool)[j]? = some u → (W.alloc (.cells #[] 4)).cell? ((⟨gf, 0, none⟩ : Addr).add j) = some u := fun j u hj => by
      obtain ⟨hj1, hj2⟩ := List.getElem?_eq_some_iff.1 hj
      have hj3 : j < l.length := by simpa using hj1
      have e1 : (W.alloc (.cells #[] 4)).cell? ⟨gf, j, none⟩ = W.cell? ⟨gf, j, none⟩ := (bel_al W (.cells #[] 4)).cell (p := ⟨gf, j, none⟩) (Nat.lt_of_lt_of_le hgf BX.out.2.size)
      have e2 : W.cell? ⟨gf, j, none⟩ = w.cell? ⟨gf, j, none⟩ := BX.out.2.cell (p := ⟨gf, j, none⟩) hgf
      rw [Go.WideShapes.add_plain, Nat.zero_add, e1, e2, LCW.out j hj3, ← hj2]
      simp
    rw [← hsW, HW.out] at hown
    rw [HW.out] at hHC
    have HO := Lib.hid hown
    have HC := Lib.hid hHC
    have HLF := Lib.hid hlf
    have HSW := Lib.hid hsW
    clear hown hHC hz2 hlf hsW LCW hgf
    go_enter Try.func46, Try.ntmps46
    go_wp2_with (at_builtin; refine wpList_append_own _ rfl _ _ 57 rfl (w.heap.size + 1 + 1) 4 i0 (.bool false) 1 1 Try.underlying57 hi0 hz0 hz1 hz2'.out rfl (by decide) _ _ _ rfl HO.out ⟨gf, 0, none⟩ nF cf (l.map Value.bool) rfl ?c1 HC.out ?c3 ?c4 ?c5 ?c6 ?_)
    case c1 => first | exact HLF.out | simpa using HLF.out
    case c3 => intro u hu; first | (rcases hu with ⟨_, rfl⟩ | ⟨_, rfl⟩ <;> rfl) | (obtain ⟨b, _, rfl⟩ := List.mem_map.1 hu; rfl)
    case c4 => unfold maxLen; omega
    case c5 => omega
    intro v1 w1 g1 g2 _
    rw [← HW.out] at g2
    have hbA : Below W.heap.size W w1 := ((Below.refl _ W).alloc (Nat.le_refl _) (.cells #[] 4)).grown g2 (by simp) (fun g' hg' => by simp [Value.ownBlock] at hg'; have := HSW.out; omega)
    have B1 := bools_own (l := l) (by rw [HL.out]; omega) (by rw [HLF.out]; simpa using g1)
    obtain ⟨gA, cA, hv1, _⟩ := bools_form B1
    rw [HLF.out] at hv1
    subst hv1
    obtain ⟨hgA, -, B2⟩ := bools_at B1
    have HST : Hid (starInv9 a s l gA cA nF (w.heap.size + 1) W (.bool true) w1) := Lib.hid ⟨l, true, rfl, star_start HL.out, (fun h => by cases h), B2, hbA.mono (by have := HSW.out; omega)⟩
    have hsW : w.heap.size + 1 + 1 ≤ W.heap.size := Nat.le_of_eq HSW.out
    clear g1 g2 hbA B1 B2 HO HC m0 m1 m2 m3 m4 m5 b0 b1 b2 b3 b4 b5 HW hmk hz2' hi0 hz0 hz1 HF HLF
    go_wp2
    go_loopw [13] (fun y wr => starInv9 a s l gA cA nF (w.heap.size + 1) W y wr) (fun y wr => 2 * flsW wr gA nF + onB y)
    case atStart => exact HST.out
    case round =>
      obtain ⟨A, more, rfl, hS, hC, hb, hbr⟩ := hrel
      clear HST
      cases more with
      | false =>
        have hres : res = A := HRES.out.trans (star_done hS (hC rfl)).symm
        subst hres
        have HB := Lib.hid (hb.imp (ok' := fun g => w.heap.size ≤ g) fun g hg => by omega)
        have HW2 := Lib.hid (BX.out.2.trans (hbr.mono (by omega)))
        clear hb hbr hS hC HRES KA0 BX HSC HRC C6W I6
        go_wp2
        go_ret
        exact ⟨_, rfl, .inl HB.out, HW2.out⟩
      | true =>
        have hbw : Below w.heap.size w wr := BX.out.2.trans (hbr.mono (by omega))
        obtain ⟨m0, m1, m2, m3, m4, m5⟩ := six_keep hlt I6.out hbw
        obtain ⟨b0, b1, b2, b3, b4, b5, -⟩ := cellsR ((hbr.block w.heap.size (by omega)).trans BX.out.1)
        have KA := Lib.hid (KA0.out wr hbw A _ hS.1 _ hb)
        obtain ⟨N, hN⟩ : ∃ N, N = endsL a s.data.toList A := ⟨_, rfl⟩
        have hNl : N.length = s.size + 1 := by rw [hN]; exact endsL_sz _ _ _
        rw [← hN] at KA
        have HS := Lib.hid hS
        have HB := Lib.hid hb
        have HBR := Lib.hid hbr
        have HN := Lib.hid hN
        have HNL := Lib.hid (hNl.trans HNF.out.symm)
        have hgAw := bools_in hb
        have hflA : flsW wr gA nF = fls A := by
          have e : nF = A.length := HNF.out.trans hS.1.symm
          have h := flsW_of (w := wr) (g := gA) (cap := cA) (A := A) (by rw [← e]; exact hb)
          rw [← e] at h
          exact h
        have HFA := Lib.hid hflA
        clear hS hC hb hbr hN hNl hbw hflA
        go_wp2_with fail
        refine KA.out.mono ?_
        rintro e w2 ⟨v2, rfl, hv2, hb2⟩
        have HRD : ∃ gN cN, v2 = .slice (some ⟨gN, 0, none⟩) nF cN ∧ RdAB9 A N gA cA gN nF w2 := by
          rcases hv2 with hv2 | ⟨rfl, rfl⟩
          · obtain ⟨gN, cN, rfl, _⟩ := bools_form hv2
            have h1 := (bools_at hv2).1
            exact ⟨gN, cN, by rw [HNL.out], rd_new HNL.out (hv2.imp fun g hg => by omega)⟩
          · exact ⟨gA, cA, rfl, rd_same⟩
        obtain ⟨gN, cN, rfl, hrd⟩ := HRD
        have HR := Lib.hid hrd
        have hB2 := HB.out.below hb2
        have HB2 := Lib.hid (HBR.out.trans (hb2.mono (by have := HBR.out.size; have := BX.out.2.size; omega)))
        have HIN : Hid (inInv9 A N gA cA nF (w.heap.size + 1) W w2 (.bool false) (.int .i64 ((0 : Nat) : Int)) w2) := Lib.hid ⟨0, Nat.zero_le _, rfl, rfl, by rw [orB_zero N (HS.out.1.trans HNF.out.symm)]; exact hB2, ⟨rfl, fun _ _ => rfl⟩, HB2.out⟩
        rw [show ((0 : Nat) : Int) = 0 from rfl] at HIN
        clear hrd hv2 hB2 hb2 KA m0 m1 m2 m3 m4 m5 b0 b1 b2 b3 b4 b5 HBR
        go_wp2
        go_loopw [13, 131] (fun y k wr' => inInv9 A N gA cA nF (w.heap.size + 1) W w2 y k wr') (fun _ k _ => nF - (intOf k).toNat)
        case atStart => exact HIN.out
        case round =>
          obtain ⟨i, hi, rfl, rfl, hbi, hsv, hbl⟩ := hrel
          clear HIN
          by_cases hlt2 : i < nF
          · obtain ⟨n0, c0, f0⟩ := HR.out _ i hsv hbi hlt2
            have hms := moreB_succ i A N
            have hsame := @orB_same nF i A N
            have hset := @orB_set nF i A N
            have q1 : (i : Int) < (nF : Int) := by omega
            have hpq : (nF : Nat) = (orB nF i A N).length := (orB_len _ _ _ _).symm
            generalize N.getD i false = pn at *
            generalize A.getD i false = pa at *
            have HMS := Lib.hid hms
            have HSM := Lib.hid hsame
            have HSE := Lib.hid hset
            have HBI := Lib.hid hbi
            have HSV := Lib.hid hsv
            have HBL := Lib.hid hbl
            have HPQ := Lib.hid hpq
            clear hms hsame hset hbi hsv hbl hpq
            cases pn with
            | false =>
              have H := Lib.hid (show inInv9 A N gA cA nF (w.heap.size + 1) W w2 (.bool (moreB i A N)) (.int .i64 ((i + 1 : Nat) : Int)) _ from ⟨i + 1, hlt2, rfl, by rw [HMS.out]; simp, by rw [← HSM.out (by simp)]; exact HBI.out, HSV.out, HBL.out⟩)
              clear HMS HSM HSE HBI HSV HBL HR
              go_wp2
              exact ⟨by simpa using H.out, by simp [intOf]; omega⟩
            | true =>
              cases pa with
              | true =>
                have H := Lib.hid (show inInv9 A N gA cA nF (w.heap.size + 1) W w2 (.bool (moreB i A N)) (.int .i64 ((i + 1 : Nat) : Int)) _ from ⟨i + 1, hlt2, rfl, by rw [HMS.out]; simp, by rw [← HSM.out (by simp)]; exact HBI.out, HSV.out, HBL.out⟩)
                clear HMS HSM HSE HBI HSV HBL HR
                go_wp2
                exact ⟨by simpa using H.out, by simp [intOf]; omega⟩
              | false =>
                have hput := BoolsAt.put (n := i) (l := orB nF i A N) (by rw [← HPQ.out]; exact HBI.out) true
                rw [← HPQ.out, HSE.out (by simp)] at hput
                have H := Lib.hid (show inInv9 A N gA cA nF (w.heap.size + 1) W w2 (.bool true) (.int .i64 ((i + 1 : Nat) : Int)) _ from ⟨i + 1, hlt2, rfl, by rw [HMS.out]; simp, hput, HSV.out.set _, HBL.out.setCell (p := ⟨gA, i, none⟩) (by show w.heap.size + 1 ≤ gA; omega) _⟩)
                clear HMS HSM HSE HBI HSV HBL HR hput
                go_wp2
                exact ⟨by simpa using H.out, by simp [intOf]; omega⟩
          · have hin : i = nF := by omega
            subst hin
            have q1 : ¬ (i : Int) < (i : Int) := by omega
            have hoe : orB i i A N = orB (s.size + 1) (s.size + 1) A N := by rw [HNF.out]
            have hst := star_step HS.out
            rw [← HN.out, ← hoe] at hst
            have hfl := bools_flsW hbi (hst.1.trans HNF.out.symm)
            have hmo : moreB i A N = moreB (s.size + 1) A N := by rw [HNF.out]
            have H : Hid (starInv9 a s l gA cA i (w.heap.size + 1) W (.bool (moreB i A N)) _) := Lib.hid ⟨orB i i A N, moreB i A N, rfl, hst, fun hm => by
              obtain ⟨h1, h2⟩ := star_none HS.out.1 (hmo.symm.trans hm)
              rw [hoe, h1, ← HN.out]
              exact h2, hbi, hbl⟩
            have HM : Hid (2 * fls (orB i i A N) + onB (.bool (moreB i A N)) < 2 * fls A + 1) := Lib.hid (by
              cases hm : moreB i A N with
              | true =>
                have := star_count HS.out.1 (hmo.symm.trans hm)
                rw [← hoe] at this
                show 2 * fls (orB i i A N) + 1 < 2 * fls A + 1
                omega
              | false =>
                have := (star_none HS.out.1 (hmo.symm.trans hm)).1
                rw [hoe, this]
                show 2 * fls A + 0 < 2 * fls A + 1
                omega)
            have HFL := Lib.hid hfl
            clear hoe hst hfl hmo hbi hsv hbl HR HN HS HB HB2
            go_wp2
            exact ⟨H.out, by rw [HFL.out, HFA.out]; exact HM.out⟩
open Go.RowKit
theorem ends0_len (r : Rx) (s : ByteArray) : (ends0 r s).length = s.size + 1 := by
  unfold ends0
  cases exX r with
  | none => simp
  | some e =>
    show (endsL e s.data.toList _).length = _
    rw [endsL_len, Array.length_toList]
    rfl
noncomputable def fitX9 (r : Rx) (s : ByteArray) : Bool := (ends0 r s).getD s.size false
set_option maxHeartbeats 2000000 in
set_option maxRecDepth 100000 in
theorem refFits (H : EndsC) {ok : Nat → Prop} (r : Rx) (s : ByteArray) (v : Value) (w : World) (hbig : r.size ≤ 1000000) (hz : s.size ≤ 100000) (h : ReAt ok w v r) :
    Calls Try.prog 20 #[v, .string s] w fun e w' => e = .returned (.bool (fitX9 r s)) ∧ Below w.heap.size w w' := by
  obtain ⟨x0, x1, x2, x3, x4, xl, xn, xc, rfl⟩ := cells_re h
  have hb0 := (Below.refl _ w).alloc (Nat.le_refl _) (.cells #[.int .u8 x0, .int .u64 x1, .int .u64 x2, .int .u64 x3, .int .u64 x4, .slice xl xn xc] 27)
  have KE := Lib.hid (refEnds H r s _ _ hbig hz (h.below hb0))
  have B0 := Lib.hid hb0
  have hlen := ends0_len r s
  obtain ⟨L, hL⟩ : ∃ L, L = ends0 r s := ⟨_, rfl⟩
  have hq : fitX9 r s = L.getD s.size false := by rw [hL]; rfl
  rw [hq]
  rw [← hL] at KE hlen
  clear hq h hb0
  clear hL
  obtain ⟨b, hb⟩ : ∃ b, b = L.getD s.size false := ⟨_, rfl⟩
  rw [← hb]
  have HB := Lib.hid hb
  clear hb
  go_enter Try.func20, Try.ntmps20
  go_wp2_with fail
  refine KE.out.mono ?_
  rintro e w1 ⟨v1, rfl, ⟨g, cap, cur, rfl, _, hg, hm, ht⟩, hb1⟩
  have c0 : w1.cell? ⟨g, s.size, none⟩ = some (.bool (L.getD s.size false)) := by
    rw [bool_cell hg ht s.size (by omega), List.getD_eq_getElem?_getD, List.getElem?_eq_getElem (by omega)]
    rfl
  have B1 := Lib.hid (B0.out.trans (hb1.mono B0.out.size))
  rw [← HB.out] at c0
  clear hg ht hb1 KE B0 HB
  rw [hlen]
  go_wp2
  go_ret
  exact ⟨rfl, B1.out⟩
open Go.RowKit
theorem endsF : ∀ e : Ex, EndsF e
  | .empty => fun ok ok' s l v vf w hz hl h h' => endsEmpty ok ok' s l v vf w hz hl h h'
  | .eps => fun ok ok' s l v vf w hz hl h h' => endsEps ok ok' s l v vf w hz hl h h'
  | .cls t => fun ok ok' s l v vf w hz hl h h' => endsCls t ok ok' s l v vf w hz hl h h'
  | .seq a b => fun ok ok' s l v vf w hz hl h h' => endsSeq (endsF a) (endsF b) ok ok' s l v vf w hz hl h h'
  | .alt a b => fun ok ok' s l v vf w hz hl h h' => endsAlt (endsF a) (endsF b) ok ok' s l v vf w hz hl h h'
  | .star a => fun ok ok' s l v vf w hz hl h h' => endsStar (endsF a) ok ok' s l v vf w hz hl h h'
theorem endsC : EndsC := fun e _ _ ok ok' s l v vf w hz hl h h' => endsF e ok ok' s l v vf w hz hl h h'
open Go.RowKit
def RdB (w : World) (D : Nat) (s : ByteArray) (k : Nat) (vl : Value) : Prop := w.heap[D]? = some (.cells #[.string s, .int .i64 k, vl] 83 (0, 0))
theorem RdB.lt {w : World} {D : Nat} {s : ByteArray} {k : Nat} {vl : Value} (h : RdB w D s k vl) : D < w.heap.size := (Array.getElem?_eq_some_iff.1 h).1
theorem RdB.cells {w : World} {D : Nat} {s : ByteArray} {k : Nat} {vl : Value} (h : RdB w D s k vl) : w.cell? ⟨D, 0, none⟩ = some (.string s) ∧ w.cell? ⟨D, 1, none⟩ = some (.int .i64 k) ∧ w.cell? ⟨D, 2, none⟩ = some vl := by
  unfold RdB at h
  refine ⟨?_, ?_, ?_⟩ <;> (rw [Lib.cell_of_heap h]; rfl)
theorem RdB.frozen {w : World} {D : Nat} {s : ByteArray} {k : Nat} {vl : Value} (h : RdB w D s k vl) : w.frozen? ⟨D, 0, none⟩ = false ∧ w.frozen? ⟨D, 1, none⟩ = false ∧ w.frozen? ⟨D, 2, none⟩ = false :=
  ⟨Lib.frozen_of_heap h 0, Lib.frozen_of_heap h 1, Lib.frozen_of_heap h 2⟩
theorem RdB.of {w w' : World} {D : Nat} {s : ByteArray} {k : Nat} {vl : Value} (h : RdB w D s k vl) (e : w'.heap[D]? = w.heap[D]?) : RdB w' D s k vl := e.trans h
theorem RdB.below {w w' : World} {D : Nat} {s : ByteArray} {k : Nat} {vl : Value} (h : RdB w D s k vl) (hb : Below w.heap.size w w') : RdB w' D s k vl := h.of (hb.block D h.lt)
theorem RdB.go {w : World} {D : Nat} {s : ByteArray} {k : Nat} {vl : Value} (h : RdB w D s k vl) (j : Nat) : RdB (w.setCell ⟨D, 1, none⟩ (.int .i64 (j : Int))) D s j vl := by
  unfold RdB at h ⊢
  simp [World.setCell, Array.getElem?_modify, h]
theorem RdB.lay {w : World} {D : Nat} {s : ByteArray} {k : Nat} {vl : Value} (h : RdB w D s k vl) (u : Value) : RdB (w.setCell ⟨D, 2, none⟩ u) D s k u := by
  unfold RdB at h ⊢
  simp [World.setCell, Array.getElem?_modify, h]
def thr (k : Nat) : Ending := .panicked [{ v := .iface 63 (.int .i64 k), recovered := false }]
theorem must_yes (p : Value) (w : World) : Calls Try.prog 51 #[p, .bool true] w fun e w' => e = .returned (.tuple #[]) ∧ w' = w := by
  go_enter Try.func51, Try.ntmps51
  go_wp2
  go_end0
  exact ⟨rfl, rfl⟩
theorem must_no {w : World} {D : Nat} {s : ByteArray} {k : Nat} {vl : Value} (h : RdB w D s k vl) : Calls Try.prog 51 #[.pointer (some ⟨D, 0, none⟩), .bool false] w fun e w' => e = thr k ∧ w' = w := by
  obtain ⟨c0, c1, c2⟩ := h.cells
  go_enter Try.func51, Try.ntmps51
  go_wp2
  exact ⟨rfl, rfl, rfl⟩
def frS (l : List UInt8) : ByteArray := ⟨(l.take 1).toArray⟩
theorem frS_ext (s : ByteArray) (k j : Nat) (hj : j = k + 1 ∨ (j = k ∧ s.size ≤ k)) : s.extract k j = frS (tl s k) := by
  apply ByteArray.ext
  unfold frS tl
  rw [ByteArray.data_extract]
  apply Array.ext'
  rw [Array.toList_extract, List.extract_eq_take_drop]
  rcases hj with rfl | ⟨rfl, h⟩
  · simp
  · rw [List.drop_eq_nil_of_le (by simpa using h)]; simp
set_option maxHeartbeats 1000000 in
theorem front_any {w : World} {D : Nat} {s : ByteArray} {k : Nat} {vl : Value} (h : RdB w D s k vl) (hs : s.size ≤ 1000000000) (hk : k ≤ s.size) : Calls Try.prog 59 #[.pointer (some ⟨D, 0, none⟩)] w fun e w' => e = .returned (.string (frS (tl s k))) ∧ Below w.heap.size w w' := by
  obtain ⟨c0, c1, c2⟩ := h.cells
  have wk : IntKind.i64.wrap ((k : Int) + 1) = (k : Int) + 1 := by rw [IntKind.wrap_i64]; omega
  clear h
  by_cases hlt : k < s.size
  · have q1 : (k : Int) + 1 ≤ (s.size : Int) := by omega
    have q2 : ((k : Int) + 1).toNat = k + 1 := by omega
    have hm : min ((k : Int) + 1) (s.size : Int) = (k : Int) + 1 := by omega
    go_enter Try.func59, Try.ntmps59
    go_wp2
    go_quiet (fail)
    go_wp2
    go_ret
    exact ⟨by rw [frS_ext s k (k + 1) (.inl rfl)]; rfl, below_drewN (Below.refl _ _) _⟩
  · have hke : k = s.size := by omega
    subst hke
    have hm : min ((s.size : Int) + 1) (s.size : Int) = (s.size : Int) := by omega
    go_enter Try.func59, Try.ntmps59
    go_wp2
    go_quiet (fail)
    go_wp2
    go_ret
    exact ⟨by rw [tl_nil s _ (Nat.le_refl _)]; rfl, below_drewN (Below.refl _ _) _⟩
set_option maxHeartbeats 1000000 in
theorem top_any {w : World} {D : Nat} {s : ByteArray} {k g n cap : Nat} (h : RdB w D s k (.slice (some ⟨g, 0, none⟩) (n + 1) cap)) (hn : n < 1000000000) : Calls Try.prog 70 #[.pointer (some ⟨D, 0, none⟩)] w fun e w' => e = .returned (.pointer (some ⟨g, n * 2, none⟩)) ∧ Below w.heap.size w w' := by
  obtain ⟨c0, c1, c2⟩ := h.cells
  have q1 : ((n + 1 : Nat) : Int) - 1 = (n : Int) := by omega
  have wk : IntKind.i64.wrap (n : Int) = (n : Int) := by rw [IntKind.wrap_i64]; omega
  clear h
  go_enter Try.func70, Try.ntmps70
  go_wp2
  go_quiet (fail)
  go_wp2
  go_ret
  exact ⟨rfl, below_drewN (Below.refl _ _) _⟩
open Go.RowKit
set_option maxRecDepth 100000 in
set_option maxHeartbeats 4000000 in
theorem assert_mis (x : Value) (w : World) : (Instr.typeAssert (.iface 63 x) 20 63 true).run Try.prog w = .ok (.tuple #[x, .bool true]) w := by kernel_rfl
set_option maxRecDepth 100000 in
set_option maxHeartbeats 4000000 in
theorem assert_err (x : Value) (w : World) : (Instr.typeAssert (.iface 49 x) 20 49 true).run Try.prog w = .ok (.tuple #[x, .bool true]) w := by kernel_rfl
set_option maxRecDepth 100000 in
set_option maxHeartbeats 4000000 in
theorem assert_not (x : Value) (w : World) : (Instr.typeAssert (.iface 49 x) 20 63 true).run Try.prog w = .ok (.tuple #[.int .i64 0, .bool false]) w := by kernel_rfl
theorem rep15 : (Array.replicate 15 undef : Array Value) = #[undef, undef, undef, undef, undef, undef, undef, undef, undef, undef, undef, undef, undef, undef, undef] := rfl
set_option maxRecDepth 100000 in
set_option maxHeartbeats 4000000 in
theorem catch_idle (p q : Addr) (w : World) :
    CallsD Try.prog 36 #[.pointer (some p), .pointer (some q)] .returning w fun e u' w' => e = .returned (.tuple #[]) ∧ u' = .returning ∧ w' = w := by
  refine callsD_of_wpS Try.func36 rfl fun c₀ cs hu => ?_
  apply wpS_seq
  apply wpS_region
  simp [wpOpsS, go_sem, recoverD, hu, Try.ntmps36, Exit.thenS]
  simp only [rep15, List.setIfInBounds_toArray, List.set_cons_succ, List.set_cons_zero, List.append_toArray, List.cons_append, List.nil_append]
  refine wpS_of_wp ?_
  go_wp2
  cases c₀
  simp_all [bodyPostS, results, Try.results36]
set_option maxRecDepth 100000 in
set_option maxHeartbeats 4000000 in
theorem catch_form (g h : Nat) (k : Nat) (a b : Value) (older : List PanicEntry) (w : World) (ha : w.cell? ⟨g, 0, none⟩ = some a) (hb : w.cell? ⟨h, 0, none⟩ = some b) (fa : w.frozen? ⟨g, 0, none⟩ = false) (fb : w.frozen? ⟨h, 0, none⟩ = false) (hpq' : ¬ g = h) :
    CallsD Try.prog 36 #[.pointer (some ⟨g, 0, none⟩), .pointer (some ⟨h, 0, none⟩)] (.panicking ({ v := .iface 63 (.int .i64 k), recovered := false } :: older)) w fun e u' w' =>
      e = .returned (.tuple #[]) ∧ u' = .panicking ({ v := .iface 63 (.int .i64 k), recovered := true } :: older) ∧ w' = (w.setCell ⟨g, 0, none⟩ (.int .i64 k)).setCell ⟨h, 0, none⟩ (.int .i64 2) := by
  refine callsD_of_wpS Try.func36 rfl fun c₀ cs hu => ?_
  have h1 := assert_mis
  apply wpS_seq
  apply wpS_region
  simp [wpOpsS, go_sem, recoverD, hu, Try.ntmps36, Exit.thenS]
  simp only [rep15, List.setIfInBounds_toArray, List.set_cons_succ, List.set_cons_zero, List.append_toArray, List.cons_append, List.nil_append]
  refine wpS_of_wp ?_
  go_wp2
  simp [bodyPostS, results, Try.results36]
set_option maxRecDepth 100000 in
set_option maxHeartbeats 4000000 in
theorem catch_err (g h : Nat) (k : Nat) (b : Value) (older : List PanicEntry) (w : World) (hb : w.cell? ⟨h, 0, none⟩ = some b) (fb : w.frozen? ⟨h, 0, none⟩ = false) :
    CallsD Try.prog 36 #[.pointer (some ⟨g, 0, none⟩), .pointer (some ⟨h, 0, none⟩)] (.panicking ({ v := .iface 49 (.int .i64 k), recovered := false } :: older)) w fun e u' w' =>
      e = .returned (.tuple #[]) ∧ u' = .panicking ({ v := .iface 49 (.int .i64 k), recovered := true } :: older) ∧ w' = w.setCell ⟨h, 0, none⟩ (.int .i64 k) := by
  refine callsD_of_wpS Try.func36 rfl fun c₀ cs hu => ?_
  have h1 := assert_err
  have h2 := assert_not
  apply wpS_seq
  apply wpS_region
  simp [wpOpsS, go_sem, recoverD, hu, Try.ntmps36, Exit.thenS]
  simp only [rep15, List.setIfInBounds_toArray, List.set_cons_succ, List.set_cons_zero, List.append_toArray, List.cons_append, List.nil_append]
  refine wpS_of_wp ?_
  go_wp2
  simp [bodyPostS, results, Try.results36]
end Go.Proofs.Ytiegejbbjlhpdaa
