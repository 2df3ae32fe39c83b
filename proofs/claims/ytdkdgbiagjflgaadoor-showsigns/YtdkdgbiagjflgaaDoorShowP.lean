/- show's page: what is written of a kid, given what is written of a node. -/
import Derived.Test.YtdkdgbiagjflgaaDoorPgBuild
import Derived.Test.YtdkdgbiagjflgaaDoorShowI
import Derived.Test.YtdkdgbiagjflgaaDoorShowA
import Derived.Test.YtdkdgbiagjflgaaDoorRowV
import Derived.Test.YtdkdgbiagjflgaaDoorBuildW
import Derived.StillTailTactics
namespace Go.Proofs.YtdkdgbiagjflgaaDoor
open Go.RowKit
/-- A page holds a text. -/
def Pg (B b : Nat) (l : List UInt8) (w : World) : Prop := Lib.IsBuilderF 51 5 B b (Lib.byteCells l) w
/-- What was there is there still: below B all, above it all but the page and rows of bytes. -/
def Fr (B b : Nat) (w w' : World) : Prop := Below B w w' ∧ Lib.OthersKept 5 (some b) w w'
theorem Fr.refl (B b : Nat) (w : World) : Fr B b w w := ⟨Below.refl _ _, Lib.OthersKept.refl _ _ _⟩
theorem Fr.trans {B b : Nat} {u v w : World} (h : Fr B b u v) (k : Fr B b v w) : Fr B b u w := ⟨h.1.trans k.1, h.2.trans k.2⟩
theorem fr_below {B b : Nat} {w w' : World} (h : Below w.heap.size w w') (hB : B ≤ w.heap.size) : Fr B b w w' :=
  ⟨h.mono hB, fun k _ hk _ _ => (h.block k (Array.getElem?_eq_some_iff.1 hk).1).trans hk⟩
theorem Fr.size {B b : Nat} {w w' : World} (h : Fr B b w w') (hB : B ≤ w.heap.size) : B ≤ w'.heap.size := Nat.le_trans hB h.1.size
theorem Fr.box {B b g : Nat} {w w' : World} {X : Array Value} {fz : Nat × Nat} (h : Fr B b w w') (hg : w.heap[g]? = some (.cells X 30 fz)) (hgb : g ≠ b) : w'.heap[g]? = some (.cells X 30 fz) :=
  h.2 g _ hg (by simpa using hgb) (fun c fz h => by simp at h)
theorem Pg.below {B b : Nat} {l : List UInt8} {w w' : World} (h : Pg B b l w) (hb : Below w.heap.size w w') : Pg B b l w' := builder_below h hb
theorem Pg.lt {B b : Nat} {l : List UInt8} {w : World} (h : Pg B b l w) : b < w.heap.size := by
  rcases h with h | h
  · exact h.lt
  · exact h.lt
theorem Pg.ge {B b : Nat} {l : List UInt8} {w : World} (h : Pg B b l w) : B ≤ b := by
  rcases h with h | h
  · exact h.1
  · exact h.1
theorem ReAt.fr {B b : Nat} {w w' : World} {v : Value} {r : Rx} (h : ReAt (Lo B) w v r) (hB : B ≤ w.heap.size) (hf : Fr B b w w') : ReAt (Lo B) w' v r := h.go (kept_lo hB hf.1)
theorem Tab.fr {B b : Nat} {w w' : World} (h : Tab w) (hB : 1 < B) (hf : Fr B b w w') : Tab w' := h.below hf.1 hB
def PgPost (B b : Nat) (l : List UInt8) (w : World) (e : Ending) (w' : World) : Prop := e = .returned (.tuple #[]) ∧ Pg B b l w' ∧ Fr B b w w'
theorem pgByte (B b : Nat) (l : List UInt8) (c : UInt8) (w : World) (h : Pg B b l w) (hlen : l.length + 1 ≤ 1000000000000) (hBw : B ≤ w.heap.size) :
    Calls Tryd.prog 27 #[.pointer (some ⟨b, 0, none⟩), .int .u8 c.toNat] w fun e w' => e = .returned .nilIface ∧ Pg B b (l ++ [c]) w' ∧ Fr B b w w' := by
  refine (pg_writeByte_any B b _ _ w h (by rw [Lib.byteCells_length]; omega) hBw).mono ?_
  rintro e w' ⟨rfl, h1, h2, h3⟩
  refine ⟨rfl, ?_, h2, h3⟩
  unfold Pg
  rw [Lib.byteCells_append]; exact h1
theorem pgText (B b : Nat) (l s : List UInt8) (w : World) (h : Pg B b l w) (hlen : l.length + s.length ≤ 1000000000000) (hBw : B ≤ w.heap.size) :
    Calls Tryd.prog 50 #[.pointer (some ⟨b, 0, none⟩), .string ⟨s.toArray⟩] w fun e w' => (∃ n, e = .returned (.tuple #[.int .i64 n, .nilIface])) ∧ Pg B b (l ++ s) w' ∧ Fr B b w w' := by
  refine (pg_writeString_any B b _ _ w h (by rw [Lib.byteCells_length]; show _ + s.toArray.size ≤ _; simp; omega) hBw).mono ?_
  rintro e w' ⟨rfl, h1, h2, h3⟩
  refine ⟨⟨_, rfl⟩, ?_, h2, h3⟩
  unfold Pg
  rw [Lib.byteCells_append, ← strCells_mk s]; exact h1
/-- What is written of a node of at most N nodes. -/
def NodeC (B N : Nat) : Prop := ∀ (e : Ex), e.size ≤ N → ∀ (v : Value) (w : World) (b : Nat) (pre : List UInt8), e.Wf → Tab w → B ≤ w.heap.size → pre.length + e.text.length ≤ 1000000000000 → Pg B b pre w → ReAt (Lo B) w v e.rx →
    Calls Tryd.prog 41 #[.pointer (some ⟨b, 0, none⟩), v] w (PgPost B b (pre ++ e.text) w)
set_option maxHeartbeats 2000000 in
theorem kid_any {B N : Nat} (hGB : 1 < B) (ih : NodeC B N) (e : Ex) (hN : e.size ≤ N) (br : List UInt8) (a : Option Addr) (cap' : Nat) (v : Value) (w : World) (b : Nat) (pre : List UInt8) (q : Bool) (k : Nat) (s : Ws) (ks : List Rx) (hrx : e.rx = .node k s ks) (hq : anyB br k = q) (hbl : br.length ≤ 1000) (hbr : BytesAt w a br)
    (we : e.Wf) (hT : Tab w) (hB : B ≤ w.heap.size) (hlen : pre.length + (roundL e.text q).length ≤ 1000000000000) (hP : Pg B b pre w) (hR : ReAt (Lo B) w v e.rx) :
    Calls Tryd.prog 52 #[.pointer (some ⟨b, 0, none⟩), v, .slice a br.length cap'] w (PgPost B b (pre ++ roundL e.text q) w) := by
  have HR := Lib.hid hR
  have HT := Lib.hid hT
  have HP := Lib.hid hP
  rw [hrx] at hR
  obtain ⟨_, _, al, cap, rfl, hcap, hmax, hrow⟩ := hR
  have KI := Lib.hid fun W (p : List UInt8) (hl : p.length + e.text.length ≤ 1000000000000) (hf : Fr B b w W) (hp : Pg B b p W) => ih e hN _ W b p we (HT.out.fr hGB hf) (hf.size hB) hl hp (HR.out.fr hB hf)
  have KC := Lib.hid fun W (h : Below w.heap.size w W) => containsB_any br k a cap' W hbl (hbr.below h)
  have hgb : w.heap.size ≠ b := fun h => by have := HP.out.lt; omega
  rw [hq] at KC
  generalize e.text = T at *
  obtain ⟨ta, tb, tc, td⟩ := s
  clear hbr ih hrow HR HT hT hP
  go_enter Tryd.func52, Tryd.ntmps52
  go_wp2_with fail
  have hb0 : Below w.heap.size w (w.alloc (.cells #[.int .u8 k, .int .u64 ta, .int .u64 tb, .int .u64 tc, .int .u64 td, .slice al ks.length cap] 30)) := (Below.refl _ w).alloc (Nat.le_refl _) _
  refine (KC.out _ hb0).mono ?_
  rintro e' w1 ⟨rfl, hb1⟩
  have hx := (hb1.block w.heap.size (by simp)).trans (blk_new w _)
  obtain ⟨x0, x1, x2, x3, x4, x5, -⟩ := cellsR hx
  have hb := hb0.trans (hb1.mono (by simp))
  have F1 := Lib.hid (fr_below (b := b) hb hB)
  have P1 := Lib.hid (HP.out.below hb)
  clear hb0 hb1 hb
  cases q with
  | false =>
    simp only [roundL, if_false, Bool.false_eq_true] at hlen
    go_wp2_with fail
    refine (KI.out _ _ hlen F1.out P1.out).mono ?_
    rintro e' w2 ⟨rfl, hp2, hf2⟩
    have P2 := Lib.hid hp2
    have F2 := Lib.hid (F1.out.trans hf2)
    clear hp2 hf2 x0 x1 x2 x3 x4 x5 hx
    go_wp2
    go_end0
    exact ⟨rfl, P2.out, F2.out⟩
  | true =>
    have hlen' : pre.length + (T.length + 2) ≤ 1000000000000 := by simpa [roundL] using hlen
    clear hlen
    go_wp2_with fail
    refine (pgByte B b pre 40 _ P1.out (by omega) (F1.out.size hB)).mono ?_
    rintro e' w2 ⟨rfl, hp2, hf2⟩
    have P2 := Lib.hid hp2
    have F2 := Lib.hid (F1.out.trans hf2)
    have hx2 := hf2.box hx hgb
    clear hp2 hf2 x0 x1 x2 x3 x4 x5 hx
    obtain ⟨x0, x1, x2, x3, x4, x5, -⟩ := cellsR hx2
    go_wp2_with fail
    refine (KI.out _ _ (by simp; omega) F2.out P2.out).mono ?_
    rintro e' w3 ⟨rfl, hp3, hf3⟩
    have P3 := Lib.hid hp3
    have F3 := Lib.hid (F2.out.trans hf3)
    clear hp3 hf3 x0 x1 x2 x3 x4 x5 hx2
    go_wp2_with fail
    refine (pgByte B b _ 41 _ P3.out (by simp; omega) (F3.out.size hB)).mono ?_
    rintro e' w4 ⟨rfl, hp4, hf4⟩
    have P4 := Lib.hid hp4
    have F4 := Lib.hid (F3.out.trans hf4)
    clear hp4 hf4
    go_wp2
    go_end0
    exact ⟨rfl, by simpa [roundL] using P4.out, F4.out⟩
end Go.Proofs.YtdkdgbiagjflgaaDoor
