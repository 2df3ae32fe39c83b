/- Lemmas of mine, merged: ReadA, ReadB, ReadC, ReadD, ReadE, ReadF, ReadG, ReadH, ReadJ, RdrB, RdrE. -/
import Derived.Test.YtfmdcnfniimkoaaGreatRexEAll
import Derived.Test.YtfmdcnfniimkoaaGreatSetJAll
import Derived.Test.YtfmdcnfniimkoaaGreatQuietBAll
import Derived.BigQuiet
import Derived.Laws.DeepStrings4
import Derived.Deep.RegionWith
import Derived.Test.YtfmdcnfniimkoaaGreatSetDAll
import Derived.Test.YtfmdcnfniimkoaaGreatRexBAll
import Derived.Test.YtfmdcnfniimkoaaGreatRexIAll
import Derived.RegionTactic
import Derived.Test.YtfmdcnfniimkoaaGreatNumHexAAll
/- quillref06's is, quillref01's Value; texts from a place on. -/
namespace Go.Proofs.YtfmdcnfniimkoaaGreat
open Go.RowKit
def valI (c : UInt8) : Int := match hexV c with
  | some x => x
  | none => -1
end Go.Proofs.YtfmdcnfniimkoaaGreat
/- quillref06's begins and sign. -/
namespace Go.Proofs.YtfmdcnfniimkoaaGreat
open Go.RowKit
theorem own_fin : ∀ n : Fin 256, (signL n.1 == [UInt8.ofNat n.1]) = ownB (UInt8.ofNat n.1) := by decide +kernel
theorem own_sign (c : UInt8) : (signL c.toNat == [c]) = ownB c := by
  have h := own_fin ⟨c.toNat, c.toNat_lt⟩
  simp only [UInt8.ofNat_toNat] at h
  exact h
theorem extract_one (s : ByteArray) (i : Nat) (h : i < s.size) : (s.extract i (i + 1)).toList = [s[i]] := by
  have e : s.extract i (i + 1) = ⟨#[s[i]]⟩ := by
    apply ByteArray.ext
    apply Array.ext
    · simp; omega
    · intro j h1 h2
      have : j = 0 := by simp at h2; omega
      subst this
      simp [ByteArray.getElem_eq_getElem_data]
  rw [e, ByteArray.toList_eq]
def begS : List UInt8 → Bool
  | [] => false
  | c :: _ => decide (c = 92) || ownB c
theorem begS_sgn {l : List UInt8} (h : begS l = false) : sgn l = .bad l := by
  cases l with
  | nil => rfl
  | cons c t =>
    simp only [begS, Bool.or_eq_false_iff, decide_eq_false_iff_not] at h
    rw [sgn_own c t h.1, h.2]; rfl
/-- What sign answers: the byte and its end; or -1 and the place. -/
def signV (s : ByteArray) : SR → Value
  | .ok b l => .tuple #[.int .i64 b, .int .i64 ((s.size - l.length : Nat) : Int)]
  | .bad r => .tuple #[.int .i64 (-1), .int .i64 ((s.size - r.length : Nat) : Int)]
theorem signV_ok (s : ByteArray) (b : Nat) (l : List UInt8) : signV s (.ok b l) = .tuple #[.int .i64 b, .int .i64 ((s.size - l.length : Nat) : Int)] := rfl
theorem signV_bad (s : ByteArray) (r : List UInt8) : signV s (.bad r) = .tuple #[.int .i64 (-1), .int .i64 ((s.size - r.length : Nat) : Int)] := rfl
theorem w64 {n : Nat} (h : n ≤ 1000000000000) : wrap64 (n : Int) = n := by
  unfold wrap64; omega
theorem valI_some {c : UInt8} {x : Nat} (h : hexV c = some x) : valI c = x := by unfold valI; rw [h]
theorem valI_none {c : UInt8} (h : hexV c = none) : valI c = -1 := by unfold valI; rw [h]
/-- The loop over two digits: behind k of them. -/
def sgInv (s : ByteArray) (i : Nat) (w : World) (n k : Value) (wr : World) : Prop := wr = w ∧
  ((n = .int .i64 0 ∧ k = .int .i64 1) ∨ (∃ (h : i + 1 < s.size) (x : Nat), hexV s[i + 1] = some x ∧ n = .int .i64 x ∧ k = .int .i64 2) ∨
   (∃ (h : i + 2 < s.size) (x y : Nat), hexV s[i + 1] = some x ∧ hexV s[i + 2] = some y ∧ n = .int .i64 ((16 * x + y : Nat) : Int) ∧ k = .int .i64 3))
end Go.Proofs.YtfmdcnfniimkoaaGreat
/- quillref06's answers in memory; bad and class. -/
namespace Go.Proofs.YtfmdcnfniimkoaaGreat
open Go.RowKit
theorem bel8 {w w' : World} {B g : Nat} (h : Below B w w') (hg : B ≤ g) (y0 y1 y2 y3 y4 y5 y6 y7 : Value) :
    Below B w ((((((((w'.setCell ⟨g, 0, none⟩ y0).setCell ⟨g, 1, none⟩ y1).setCell ⟨g, 2, none⟩ y2).setCell ⟨g, 3, none⟩ y3).setCell ⟨g, 4, none⟩ y4).setCell ⟨g, 5, none⟩ y5).setCell ⟨g, 6, none⟩ y6).setCell ⟨g, 7, none⟩ y7) :=
  (((((((h.setCell (p := ⟨g, 0, none⟩) hg _).setCell (p := ⟨g, 1, none⟩) hg _).setCell (p := ⟨g, 2, none⟩) hg _).setCell (p := ⟨g, 3, none⟩) hg _).setCell (p := ⟨g, 4, none⟩) hg _).setCell (p := ⟨g, 5, none⟩) hg _).setCell (p := ⟨g, 6, none⟩) hg _).setCell (p := ⟨g, 7, none⟩) hg _
/-- What one of quillref06's readers answers. -/
def ParsePost (s : ByteArray) (w : World) (res : PR) (e : Ending) (w' : World) : Prop := Below w.heap.size w w' ∧ ∃ (y0 y1 y2 y3 y4 : Int) (yl : Option Addr) (yn yc : Nat), match res with
  | .ok ex l => e = .returned (.agg #[.int .u8 y0, .int .u64 y1, .int .u64 y2, .int .u64 y3, .int .u64 y4, .slice yl yn yc, .int .i64 ((s.size - l.length : Nat) : Int), .bool false]) ∧ ReAt (New w.heap.size) w' (.agg #[.int .u8 y0, .int .u64 y1, .int .u64 y2, .int .u64 y3, .int .u64 y4, .slice yl yn yc]) ex.rx
  | .bad r => e = .returned (.agg #[.int .u8 y0, .int .u64 y1, .int .u64 y2, .int .u64 y3, .int .u64 y4, .slice yl yn yc, .int .i64 ((s.size - r.length : Nat) : Int), .bool true])
theorem post_ok {s : ByteArray} {w w' : World} {res : PR} {ex : Ex} {l : List UInt8} {y0 y1 y2 y3 y4 : Int} {yl : Option Addr} {yn yc : Nat} {z : Int} (hr : res = .ok ex l) (hz : z = ((s.size - l.length : Nat) : Int)) (hb : Below w.heap.size w w') (hv : ReAt (New w.heap.size) w' (.agg #[.int .u8 y0, .int .u64 y1, .int .u64 y2, .int .u64 y3, .int .u64 y4, .slice yl yn yc]) ex.rx) :
    ParsePost s w res (.returned (.agg #[.int .u8 y0, .int .u64 y1, .int .u64 y2, .int .u64 y3, .int .u64 y4, .slice yl yn yc, .int .i64 z, .bool false])) w' := by
  subst hr hz
  exact ⟨hb, y0, y1, y2, y3, y4, yl, yn, yc, rfl, hv⟩
theorem post_bad {s : ByteArray} {w w' : World} {res : PR} {r : List UInt8} {y0 y1 y2 y3 y4 : Int} {yl : Option Addr} {yn yc : Nat} {z : Int} (hr : res = .bad r) (hz : z = ((s.size - r.length : Nat) : Int)) (hb : Below w.heap.size w w') :
    ParsePost s w res (.returned (.agg #[.int .u8 y0, .int .u64 y1, .int .u64 y2, .int .u64 y3, .int .u64 y4, .slice yl yn yc, .int .i64 z, .bool true])) w' := by
  subst hr hz
  exact ⟨hb, y0, y1, y2, y3, y4, yl, yn, yc, rfl⟩
theorem ParsePost.ok {s : ByteArray} {w w' : World} {ex : Ex} {l : List UInt8} {e : Ending} (h : ParsePost s w (.ok ex l) e w') : ∃ (y0 y1 y2 y3 y4 : Int) (yl : Option Addr) (yn yc : Nat), e = .returned (.agg #[.int .u8 y0, .int .u64 y1, .int .u64 y2, .int .u64 y3, .int .u64 y4, .slice yl yn yc, .int .i64 ((s.size - l.length : Nat) : Int), .bool false]) ∧ ReAt (New w.heap.size) w' (.agg #[.int .u8 y0, .int .u64 y1, .int .u64 y2, .int .u64 y3, .int .u64 y4, .slice yl yn yc]) ex.rx ∧ Below w.heap.size w w' := by
  obtain ⟨hb, y0, y1, y2, y3, y4, yl, yn, yc, h1, h2⟩ := h
  exact ⟨y0, y1, y2, y3, y4, yl, yn, yc, h1, h2, hb⟩
theorem ParsePost.bad {s : ByteArray} {w w' : World} {r : List UInt8} {e : Ending} (h : ParsePost s w (.bad r) e w') : ∃ (y0 y1 y2 y3 y4 : Int) (yl : Option Addr) (yn yc : Nat), e = .returned (.agg #[.int .u8 y0, .int .u64 y1, .int .u64 y2, .int .u64 y3, .int .u64 y4, .slice yl yn yc, .int .i64 ((s.size - r.length : Nat) : Int), .bool true]) ∧ Below w.heap.size w w' := by
  obtain ⟨hb, y0, y1, y2, y3, y4, yl, yn, yc, h1⟩ := h
  exact ⟨y0, y1, y2, y3, y4, yl, yn, yc, h1, hb⟩
end Go.Proofs.YtfmdcnfniimkoaaGreat
/- quillref06's class. -/
namespace Go.Proofs.YtfmdcnfniimkoaaGreat
open Go.RowKit
theorem ofS_rx (s : Ws) : (ofS s).rx = ofR s := by
  unfold ofS ofR
  split <;> rfl
/-- An expression whose rows lie above is kept where a block below is written. -/
theorem ReAt.put8 {B B' g : Nat} {w : World} {v : Value} {r : Rx} (h : ReAt (New B) w v r) (hg : g < B) (hB : B' ≤ B) (y0 y1 y2 y3 y4 y5 y6 y7 : Value) :
    ReAt (New B') ((((((((w.setCell ⟨g, 0, none⟩ y0).setCell ⟨g, 1, none⟩ y1).setCell ⟨g, 2, none⟩ y2).setCell ⟨g, 3, none⟩ y3).setCell ⟨g, 4, none⟩ y4).setCell ⟨g, 5, none⟩ y5).setCell ⟨g, 6, none⟩ y6).setCell ⟨g, 7, none⟩ y7) v r := by
  refine h.go ⟨by simp [World.setCell], fun b _ h2 => ⟨Nat.le_trans hB h2, ?_⟩⟩
  have hne : g ≠ b := fun e => by have : B ≤ b := h2; omega
  simp [World.setCell, Array.getElem?_modify, hne]
theorem Box.put8 {w : World} {g g' : Nat} {s : Ws} (h : Box w g s) (hg : g ≠ g') (y0 y1 y2 y3 : Value) : Box ((((w.setCell ⟨g', 0, none⟩ y0).setCell ⟨g', 1, none⟩ y1).setCell ⟨g', 2, none⟩ y2).setCell ⟨g', 3, none⟩ y3) g s :=
  (((h.far (p := ⟨g', 0, none⟩) hg _).far (p := ⟨g', 1, none⟩) hg _).far (p := ⟨g', 2, none⟩) hg _).far (p := ⟨g', 3, none⟩) hg _
theorem left_pos {s : ByteArray} {i : Nat} {l : List UInt8} (h : l <:+ tl s i) (_hi : i ≤ s.size) : ∃ k, k ≤ s.size ∧ s.size - l.length = k ∧ l = tl s k ∧ l.length = s.size - k := by
  obtain ⟨h1, h2⟩ := tl_suffix h
  exact ⟨s.size - l.length, by omega, rfl, h1, by omega⟩
end Go.Proofs.YtfmdcnfniimkoaaGreat
/- quillref06's atom, given alt. -/
namespace Go.Proofs.YtfmdcnfniimkoaaGreat
open Go.RowKit
theorem range_full : rangeW 0 255 = Ws.full := by
  refine Ws.has_ext (ofN_ok _) Ws.full_ok fun m hm => ?_
  rw [Ws.has_full]
  show (rngW 0 255).has m = true
  unfold rngW
  rw [has_ofN _ (by intro x hx; simp at hx; omega) m hm]
  simp; omega
theorem ofR_full : ofR Ws.full = (Ex.cls Ws.full).rx := by
  have := ofS_rx Ws.full
  rw [← this]
  unfold ofS
  rw [if_neg (fun e => full_ne (sameW_iff.1 e))]
theorem one_rng {b : Nat} (h : b < 256) : ofN (natsOf [UInt8.ofNat b]) = rngW b b := by
  have e : natsOf [UInt8.ofNat b] = [b] := by
    have : (UInt8.ofNat b).toNat = b := by simp; omega
    simp [natsOf, this]
  rw [e]
  unfold rngW
  rw [show b + 1 - b = 1 from by omega]; rfl
theorem ofR_one {b : Nat} (h : b < 256) : ofR (rngW b b) = (Ex.cls (rngW b b)).rx := by
  rw [← ofS_rx]
  unfold ofS
  rw [if_neg (fun e => rng_ne h (sameW_iff.1 e))]
theorem pos_cons {s : ByteArray} {i : Nat} {c : UInt8} {t : List UInt8} (h : tl s i = c :: t) (hi : i ≤ s.size) : i < s.size ∧ tl s (i + 1) = t ∧ s.size - t.length = i + 1 := by
  have hl := congrArg List.length h
  rw [tl_len] at hl
  simp only [List.length_cons] at hl
  have h1 : i < s.size := by omega
  rw [tl_cons s i h1] at h
  simp only [List.cons.injEq] at h
  exact ⟨h1, h.2, by omega⟩
theorem bel_a {w w' : World} {B : Nat} (h : Below B w w') (hB : B ≤ w.heap.size) (o : Obj) : Below B w (w'.alloc o) := h.alloc (Nat.le_trans hB h.size) o
theorem ReAt.alloc {ok : Nat → Prop} {w : World} {v : Value} {r : Rx} (h : ReAt ok w v r) (o : Obj) : ReAt ok (w.alloc o) v r := h.below ((Below.refl _ w).alloc (Nat.le_refl _) o)
end Go.Proofs.YtfmdcnfniimkoaaGreat
/- quillref06's alt, given row. -/
namespace Go.Proofs.YtfmdcnfniimkoaaGreat
open Go.RowKit
theorem fold_seq : ∀ (ps : List Ex), ps ≠ [] → (foldE .seq ps).rx = foldR 4 2 (ps.map Ex.rx)
  | [], h => absurd rfl h
  | [e], _ => rfl
  | e :: e' :: l, _ => by
    have ih := fold_seq (e' :: l) (by simp)
    show Rx.node 4 Ws.nil [e.rx, (foldE .seq (e' :: l)).rx] = _
    rw [ih]; rfl
theorem fold_alt : ∀ (ps : List Ex), ps ≠ [] → (foldE .alt ps).rx = foldR 5 1 (ps.map Ex.rx)
  | [], h => absurd rfl h
  | [e], _ => rfl
  | e :: e' :: l, _ => by
    have ih := fold_alt (e' :: l) (by simp)
    show Rx.node 5 Ws.nil [e.rx, (foldE .alt (e' :: l)).rx] = _
    rw [ih]; rfl
/-- Above B, and not where the row itself lies. -/
def Kd (B : Nat) (v : Value) (b : Nat) : Prop := B < b ∧ v.ownBlock ≠ some b
/-- A row of one's own that holds expressions. -/
def RowO (B : Nat) (w : World) (v : Value) (ps : List Ex) : Prop := ∃ xs, w.ownsRow (B + 1) 27 6 v ps.length xs ∧ RowVals (Kd B v) w xs (ps.map Ex.rx)
theorem RowO.below {B : Nat} {w w' : World} {v : Value} {ps : List Ex} (h : RowO B w v ps) (hb : Below w.heap.size w w') : RowO B w' v ps := by
  obtain ⟨xs, h1, h2⟩ := h
  exact ⟨xs, ownR_below h1 hb, h2.go (keptB hb _)⟩
theorem RowO.lt {B : Nat} {w : World} {v : Value} {ps : List Ex} (h : RowO B w v ps) {g : Nat} (hg : v.ownBlock = some g) : B + 1 ≤ g ∧ g < w.heap.size := by
  obtain ⟨xs, h1, _⟩ := h
  exact h1.lt g hg
theorem RowO.start {B : Nat} {w : World} (hB : B + 1 ≤ w.heap.size) : RowO B (w.alloc (.cells #[] 27)) (.slice (some ⟨w.heap.size, 0, none⟩) 0 0) [] :=
  ⟨[], ⟨rfl, .inr ⟨w.heap.size, 0, #[], rfl, hB, blk_new w _, Nat.le_refl _, Nat.zero_le _, rfl, rfl⟩⟩, RowVals.nil _ _⟩
/-- What append leaves: the row with one more. -/
theorem RowO.push {B : Nat} {w1 w4 : World} {v v' : Value} {ps : List Ex} {e : Ex} {o o' : Obj} {c0 c1 c2 c3 c4 c5 : Value} {xs : List Value} (hB : B < w1.heap.size) (hv : RowVals (Kd B v) w1 xs (ps.map Ex.rx)) (hlt : ∀ g, v.ownBlock = some g → B + 1 ≤ g ∧ g < w1.heap.size)
    (he : ReAt (Kd B v) w1 (.agg #[c0, c1, c2, c3, c4, c5]) e.rx) (hown : w4.ownsRow (B + 1) 27 6 v' (ps.length + 1) (xs ++ [c0, c1, c2, c3, c4, c5])) (hgrow : ((w1.alloc o).alloc o').grownBy w4 v.ownBlock)
    (hat : v'.ownBlock = v.ownBlock ∨ v'.ownBlock = some (w1.heap.size + 1 + 1)) : RowO B w4 v' (ps ++ [e]) ∧ Below (B + 1) w1 w4 ∧ (∀ k, k < w1.heap.size + 1 → v.ownBlock ≠ some k → w4.heap[k]? = (w1.alloc o).heap[k]?) := by
  have hsz : ((w1.alloc o).alloc o').heap.size = w1.heap.size + 2 := by simp
  have hk : ∀ k, k < w1.heap.size + 1 → v.ownBlock ≠ some k → w4.heap[k]? = (w1.alloc o).heap[k]? := fun k h1 h2 =>
    (hgrow.block k (by rw [hsz]; omega) (fun e => h2 e.symm)).trans (Below.heap_alloc _ _ _ (by simpa using h1))
  have hkept : Kept (Kd B v) (Kd B v') w1 w4 := by
    refine ⟨Nat.le_trans (by rw [hsz]; omega) hgrow.size, fun b h1 h2 => ⟨⟨h2.1, ?_⟩, ?_⟩⟩
    · rcases hat with h | h
      · rw [h]; exact h2.2
      · rw [h]
        intro e
        have := Option.some.inj e
        omega
    · exact (hk b (by omega) h2.2).trans (Below.heap_alloc _ _ _ h1)
  refine ⟨⟨xs ++ [c0, c1, c2, c3, c4, c5], by simpa using hown, ?_⟩, ?_, hk⟩
  · rw [List.map_append]
    exact (hv.go hkept).append ((RowVals.one he).go hkept)
  · refine (((Below.refl (B + 1) w1).alloc hB o).alloc (by simp; omega) o').grown hgrow (by rw [hsz]; omega) fun g hg => (hlt g hg).1
theorem RowO.row {B : Nat} {w : World} {v : Value} {ps : List Ex} (h : RowO B w v ps) : ∃ al cap, v = .slice al ps.length cap ∧ ps.length ≤ cap ∧ RowAt (New (B + 1)) w al (ps.map Ex.rx) := by
  obtain ⟨xs, h1, h2⟩ := h
  have hl : (ps.map Ex.rx).length = ps.length := List.length_map ..
  rw [← hl] at h1
  obtain ⟨al, cap, e1, e2, e3⟩ := row_of_own h1 h2
  rw [hl] at e1 e2
  refine ⟨al, cap, e1, e2, e3.imp fun b _ h => ?_⟩
  rcases h with h | h
  · exact h.1
  · exact h
theorem six_at (w : World) {g : Nat} (hg : g = w.heap.size) (c0 c1 c2 c3 c4 c5 : Value) : ∀ j u, [c0, c1, c2, c3, c4, c5][j]? = some u → (w.alloc (.cells #[c0, c1, c2, c3, c4, c5] 27)).cell? ((⟨g, 0, none⟩ : Addr).add j) = some u := by
  subst hg
  exact six_cells w c0 c1 c2 c3 c4 c5
end Go.Proofs.YtfmdcnfniimkoaaGreat
/- quillref06's row, given atom. -/
namespace Go.Proofs.YtfmdcnfniimkoaaGreat
open Go.RowKit
/-- What append leaves: the row with one more. -/
theorem RowO.push' {B n : Nat} {w1 W w4 : World} {v v' : Value} {ps : List Ex} {e : Ex} {c0 c1 c2 c3 c4 c5 : Value} {xs : List Value} (hB : B < w1.heap.size) (hW : Below w1.heap.size w1 W) (hv : RowVals (Kd B v) w1 xs (ps.map Ex.rx)) (hlt : ∀ g, v.ownBlock = some g → B + 1 ≤ g ∧ g < w1.heap.size)
    (he : ReAt (Kd B v) w1 (.agg #[c0, c1, c2, c3, c4, c5]) e.rx) (hown : w4.ownsRow (B + 1) 27 6 v' (ps.length + 1) (xs ++ [c0, c1, c2, c3, c4, c5])) (hgrow : W.grownBy w4 v.ownBlock)
    (hat : v'.ownBlock = v.ownBlock ∨ v'.ownBlock = some n) (hn : w1.heap.size ≤ n) : RowO B w4 v' (ps ++ [e]) ∧ Below (B + 1) w1 w4 := by
  have hkept : Kept (Kd B v) (Kd B v') w1 w4 := by
    refine ⟨Nat.le_trans hW.size hgrow.size, fun b h1 h2 => ⟨⟨h2.1, ?_⟩, ?_⟩⟩
    · rcases hat with h | h
      · rw [h]; exact h2.2
      · rw [h]
        intro e
        have := Option.some.inj e
        omega
    · exact (hgrow.block b (Nat.lt_of_lt_of_le h1 hW.size) (fun e => h2.2 e.symm)).trans (hW.block b h1)
  refine ⟨⟨xs ++ [c0, c1, c2, c3, c4, c5], by simpa using hown, ?_⟩, ?_⟩
  · rw [List.map_append]
    exact (hv.go hkept).append ((RowVals.one he).go hkept)
  · exact (hW.mono (by omega)).grown hgrow (Nat.le_trans hB hW.size) fun g hg => (hlt g hg).1
/-- Not in the block of the part that is being read. -/
def Kp (B : Nat) (v : Value) (gp b : Nat) : Prop := Kd B v b ∧ b ≠ gp
theorem ReAt.put6 {ok ok' : Nat → Prop} {w : World} {v : Value} {r : Rx} {g : Nat} (h : ReAt ok w v r) (hok : ∀ b, b < w.heap.size → ok b → ok' b ∧ b ≠ g) (y0 y1 y2 y3 y4 y5 : Value) :
    ReAt ok' ((((((w.setCell ⟨g, 0, none⟩ y0).setCell ⟨g, 1, none⟩ y1).setCell ⟨g, 2, none⟩ y2).setCell ⟨g, 3, none⟩ y3).setCell ⟨g, 4, none⟩ y4).setCell ⟨g, 5, none⟩ y5) v r := by
  refine h.go ⟨by simp [World.setCell], fun b h1 h2 => ⟨(hok b h1 h2).1, ?_⟩⟩
  have hne : g ≠ b := fun e => (hok b h1 h2).2 e.symm
  simp [World.setCell, Array.getElem?_modify, hne]
theorem But.put6 {g B : Nat} {w w' : World} (h : But g B w w') (y0 y1 y2 y3 y4 y5 : Value) : But g B w ((((((w'.setCell ⟨g, 0, none⟩ y0).setCell ⟨g, 1, none⟩ y1).setCell ⟨g, 2, none⟩ y2).setCell ⟨g, 3, none⟩ y3).setCell ⟨g, 4, none⟩ y4).setCell ⟨g, 5, none⟩ y5) :=
  (((((h.set 0 y0).set 1 y1).set 2 y2).set 3 y3).set 4 y4).set 5 y5
theorem beg_cases (l : List UInt8) : begB l = (atB 46 l || atB 91 l || atB 40 l || begS l) := by
  cases l with
  | nil => rfl
  | cons c t => simp [begB, atB, begS, Bool.or_assoc]
theorem beg_none {l : List UInt8} (h : begB l = false) : atB 46 l = false ∧ atB 91 l = false ∧ atB 40 l = false ∧ begS l = false := by
  rw [beg_cases] at h
  simp only [Bool.or_eq_false_iff] at h
  exact ⟨h.1.1.1, h.1.1.2, h.1.2, h.2⟩
end Go.Proofs.YtfmdcnfniimkoaaGreat
/- quillref06's Read. -/
namespace Go.Proofs.YtfmdcnfniimkoaaGreat
open Go.RowKit
theorem ret_re3 {fn : Func} {R : Ending → World → Prop} {a : Act} {W : World} {k i j g : Nat} {x0 x1 x2 x3 x4 x5 : Value} {fz : Nat × Nat} (hB : W.heap[g]? = some (.cells #[x0, x1, x2, x3, x4, x5] 27 fz)) (hres : fn.results = #[.cell k 27, .tmp i, .tmp j]) (hslot : a.tmps.getD k undef = .pointer (some ⟨g, 0, none⟩)) (hd : a.defers = []) (hR : R (.returned (.tuple #[.agg #[x0, x1, x2, x3, x4, x5], a.tmps.getD i undef, a.tmps.getD j undef])) W) : bodyPost Tryz.prog fn R .ret a W := by
  have c0 : W.cell? ⟨g, 0, none⟩ = some x0 := by rw [Lib.cell_of_heap hB]; rfl
  have c1 : W.cell? ⟨g, 1, none⟩ = some x1 := by rw [Lib.cell_of_heap hB]; rfl
  have c2 : W.cell? ⟨g, 2, none⟩ = some x2 := by rw [Lib.cell_of_heap hB]; rfl
  have c3 : W.cell? ⟨g, 3, none⟩ = some x3 := by rw [Lib.cell_of_heap hB]; rfl
  have c4 : W.cell? ⟨g, 4, none⟩ = some x4 := by rw [Lib.cell_of_heap hB]; rfl
  have c5 : W.cell? ⟨g, 5, none⟩ = some x5 := by rw [Lib.cell_of_heap hB]; rfl
  refine bodyPost_ret (v := .tuple #[.agg #[x0, x1, x2, x3, x4, x5], a.tmps.getD i undef, a.tmps.getD j undef]) ?_ hd hR
  have hslot' : a.tmps[k]?.getD undef = .pointer (some ⟨g, 0, none⟩) := by simpa using hslot
  simp [results, hres, hslot', go_sem, c0, c1, c2, c3, c4, c5]
theorem put_plain {w : World} {g : Nat} {x0 x1 x2 x3 x4 x5 : Value} (h : w.heap[g]? = some (.cells #[x0, x1, x2, x3, x4, x5] 27)) (y0 y1 y2 y3 y4 y5 : Value) : ((((((w.setCell ⟨g, 0, none⟩ y0).setCell ⟨g, 1, none⟩ y1).setCell ⟨g, 2, none⟩ y2).setCell ⟨g, 3, none⟩ y3).setCell ⟨g, 4, none⟩ y4).setCell ⟨g, 5, none⟩ y5).heap[g]? = some (.cells #[y0, y1, y2, y3, y4, y5] 27) := putR h y0 y1 y2 y3 y4 y5
theorem drew_heap (w : World) : w.drew.heap = w.heap := rfl
theorem put_drew {w : World} {g : Nat} {x0 x1 x2 x3 x4 x5 : Value} (h : w.heap[g]? = some (.cells #[x0, x1, x2, x3, x4, x5] 27)) (y0 y1 y2 y3 y4 y5 : Value) : ((((((w.setCell ⟨g, 0, none⟩ y0).setCell ⟨g, 1, none⟩ y1).setCell ⟨g, 2, none⟩ y2).setCell ⟨g, 3, none⟩ y3).setCell ⟨g, 4, none⟩ y4).setCell ⟨g, 5, none⟩ y5).drew.heap[g]? = some (.cells #[y0, y1, y2, y3, y4, y5] 27) := by
  rw [drew_heap]
  exact put_plain h y0 y1 y2 y3 y4 y5
theorem bel_plain {v w : World} {B g : Nat} (h : Below B v w) (hg : B ≤ g) (y0 y1 y2 y3 y4 y5 : Value) : Below B v ((((((w.setCell ⟨g, 0, none⟩ y0).setCell ⟨g, 1, none⟩ y1).setCell ⟨g, 2, none⟩ y2).setCell ⟨g, 3, none⟩ y3).setCell ⟨g, 4, none⟩ y4).setCell ⟨g, 5, none⟩ y5) := putB h hg y0 y1 y2 y3 y4 y5
theorem bel_drew {v w : World} {B g : Nat} (h : Below B v w) (hg : B ≤ g) (y0 y1 y2 y3 y4 y5 : Value) : Below B v ((((((w.setCell ⟨g, 0, none⟩ y0).setCell ⟨g, 1, none⟩ y1).setCell ⟨g, 2, none⟩ y2).setCell ⟨g, 3, none⟩ y3).setCell ⟨g, 4, none⟩ y4).setCell ⟨g, 5, none⟩ y5).drew := (bel_plain h hg y0 y1 y2 y3 y4 y5).drew
end Go.Proofs.YtfmdcnfniimkoaaGreat
/- What package read is to answer, as the laws' walks take it; layer 6's example; quilllaw06.ReadIs, walked. -/
namespace Go.Proofs.YtfmdcnfniimkoaaGreat
open Go.RowKit
/-- What is read of a text. -/
noncomputable def resOf (s : ByteArray) : PR := Classical.choose (PX.total _ s.data.toList (Nat.le_refl _)).2.2
theorem resOf_px (s : ByteArray) : PX .alt s.data.toList (resOf s) := Classical.choose_spec (PX.total _ s.data.toList (Nat.le_refl _)).2.2
noncomputable def rdOf (s : ByteArray) : RD := topR s.size (resOf s)
theorem rdOf_px {s : ByteArray} {res : PR} (h : PX .alt s.data.toList res) : rdOf s = topR s.size res := by
  unfold rdOf
  rw [(resOf_px s).det h]
def RD.isOk : RD → Bool
  | .ok _ => true
  | .no _ _ => false
/-- A slice of texts. -/
def StrsAt (w : World) (al : Option Addr) (L : List ByteArray) : Prop := L = [] ∨ ∃ b off, al = some ⟨b, off, none⟩ ∧ b < w.heap.size ∧ ∀ i (h : i < L.length), w.cell? ⟨b, off + i, none⟩ = some (.string L[i])
def ReadC : Prop := ∀ (s : ByteArray) (w : World), s.size ≤ 1000000000 → Calls Tryz.prog 31 #[.string s] w (RdPost w (rdOf s))
theorem strs_one (w : World) (s : ByteArray) {g : Nat} (hg : g = w.heap.size) (t : TypeId) : StrsAt (w.alloc (.cells #[.string s] t)) (some ⟨g, 0, none⟩) [s] := by
  subst hg
  refine .inr ⟨_, 0, rfl, by simp, fun i h => ?_⟩
  match i, h with
  | 0, _ => simp
/-- The value, the place and the number that Read answers. -/
theorem RdPost.open {w w' : World} {rd : RD} {e : Ending} (h : RdPost w rd e w') : ∃ (y0 y1 y2 y3 y4 : Int) (yl : Option Addr) (yn yc k err : Nat) (r : Rx), e = .returned (.tuple #[.agg #[.int .u8 y0, .int .u64 y1, .int .u64 y2, .int .u64 y3, .int .u64 y4, .slice yl yn yc], .int .i64 (k : Int), .int .i64 (err : Int)]) ∧ ReAt (New w.heap.size) w' (.agg #[.int .u8 y0, .int .u64 y1, .int .u64 y2, .int .u64 y3, .int .u64 y4, .slice yl yn yc]) r ∧ Below w.heap.size w w' ∧
    (match rd with | .ok ex => r = ex.rx ∧ k = 0 ∧ err = 0 | .no k' err' => r = .node 0 Ws.nil [] ∧ k = k' ∧ err = err') := by
  obtain ⟨hb, h⟩ := h
  cases rd with
  | ok ex =>
    obtain ⟨v, he, hv⟩ := h
    obtain ⟨y0, y1, y2, y3, y4, yl, yn, yc, rfl⟩ := cells_re hv
    exact ⟨y0, y1, y2, y3, y4, yl, yn, yc, 0, 0, _, he, hv, hb, rfl, rfl, rfl⟩
  | no k err =>
    exact ⟨0, 0, 0, 0, 0, none, 0, 0, k, err, _, h, bareAt _ _ 0 Ws.nil (by decide) Ws.nil_ok, hb, rfl, rfl, rfl⟩
def RD.rx : RD → Rx
  | .ok e => e.rx
  | .no _ _ => .node 0 Ws.nil []
def RD.k : RD → Nat
  | .ok _ => 0
  | .no k _ => k
def RD.err : RD → Nat
  | .ok _ => 0
  | .no _ err => err
theorem RdPost.all {w w' : World} {rd : RD} {e : Ending} (h : RdPost w rd e w') : ∃ (y0 y1 y2 y3 y4 : Int) (yl : Option Addr) (yn yc : Nat), e = .returned (.tuple #[.agg #[.int .u8 y0, .int .u64 y1, .int .u64 y2, .int .u64 y3, .int .u64 y4, .slice yl yn yc], .int .i64 (rd.k : Int), .int .i64 (rd.err : Int)]) ∧ ReAt (New w.heap.size) w' (.agg #[.int .u8 y0, .int .u64 y1, .int .u64 y2, .int .u64 y3, .int .u64 y4, .slice yl yn yc]) rd.rx ∧ Below w.heap.size w w' := by
  obtain ⟨hb, h⟩ := h
  cases rd with
  | ok ex =>
    obtain ⟨v, he, hv⟩ := h
    obtain ⟨y0, y1, y2, y3, y4, yl, yn, yc, rfl⟩ := cells_re hv
    exact ⟨y0, y1, y2, y3, y4, yl, yn, yc, he, hv, hb⟩
  | no k err => exact ⟨0, 0, 0, 0, 0, none, 0, 0, h, bareAt _ _ 0 Ws.nil (by decide) Ws.nil_ok, hb⟩
theorem topR_ok (n : Nat) (res : PR) : (topR n res).isOk = decide ((topR n res).err = 0) := by
  unfold topR
  split
  · rfl
  · cases res with
    | bad r => rfl
    | ok e l =>
      simp only
      split
      · split <;> rfl
      · rfl
theorem ex_one : PX .alt [97, 40, 98, 124] (.bad []) := by
  refine PX.altBad (PX.rowMoreBad (a := .cls (rngW 97 97)) (l1 := [40, 98, 124]) (p := .cls (rngW 97 97)) (l2 := [40, 98, 124]) (PX.sign (notAt_cons (by decide)) (notAt_cons (by decide)) (notAt_cons (by decide)) rfl) rfl rfl ?_)
  refine PX.rowBad (PX.roundBad (notAt_cons (by decide)) ?_)
  refine PX.altMoreBad (e := .cls (rngW 98 98)) (l1 := []) (PX.rowOne (a := .cls (rngW 98 98)) (l1 := [124]) (PX.sign (notAt_cons (by decide)) (notAt_cons (by decide)) (notAt_cons (by decide)) rfl) rfl rfl) ?_
  exact PX.altBad (PX.rowBad (PX.signBad (notAt_nil _) (notAt_nil _) (notAt_nil _) rfl))
theorem ex_atom (c : UInt8) (l : List UInt8) (hc : sgn (c :: l) = .ok c.toNat l) (h1 : c ≠ 46) (h2 : c ≠ 91) (h3 : c ≠ 40) : PX .atom (c :: l) (.ok (.cls (rngW c.toNat c.toNat)) l) := PX.sign (notAt_cons h1) (notAt_cons h2) (notAt_cons h3) hc
theorem ex_two : ∃ e : Ex, e.size ≤ 10 ∧ PX .alt [97, 40, 98, 124, 99, 41, 97, 42] (.ok e []) := by
  have hbc : PX .alt [98, 124, 99, 41, 97, 42] (.ok (.alt (.cls (rngW 98 98)) (.cls (rngW 99 99))) [41, 97, 42]) :=
    PX.altMore (PX.rowOne (ex_atom 98 _ rfl (by decide) (by decide) (by decide)) rfl rfl) (PX.altOne (PX.rowOne (ex_atom 99 _ rfl (by decide) (by decide) (by decide)) rfl rfl) (notAt_cons (by decide)))
  have ha : PX .row [97, 42] (.ok (.star (.cls (rngW 97 97))) []) := PX.rowOne (ex_atom 97 _ rfl (by decide) (by decide) (by decide)) rfl rfl
  have hr : PX .row [40, 98, 124, 99, 41, 97, 42] (.ok (.seq (.alt (.cls (rngW 98 98)) (.cls (rngW 99 99))) (.star (.cls (rngW 97 97)))) []) :=
    PX.rowMore (PX.round (notAt_cons (by decide)) hbc) rfl rfl ha
  exact ⟨_, by decide, PX.altOne (PX.rowMore (ex_atom 97 _ rfl (by decide) (by decide) (by decide)) rfl rfl hr) (notAt_nil _)⟩
theorem rd_one : rdOf ⟨#[97, 40, 98, 124]⟩ = .no 4 2 := by
  rw [rdOf_px (res := .bad []) ex_one]; rfl
theorem rd_two : (rdOf ⟨#[97, 40, 98, 124, 99, 41, 97, 42]⟩).isOk = true := by
  obtain ⟨e, h1, h2⟩ := ex_two
  rw [rdOf_px (s := ⟨#[97, 40, 98, 124, 99, 41, 97, 42]⟩) h2]
  unfold topR
  rw [if_neg (by decide)]
  simp only [if_true]
  rw [if_pos (by omega)]
  rfl
end Go.Proofs.YtfmdcnfniimkoaaGreat
/- The landed reader's digit, sign, item, items: what is read, or the place that is thrown. -/
namespace Go.Proofs.YtfmdcnfniimkoaaGreat
open Go.RowKit
theorem hex_fin : ∀ n : Fin 256, hexErr ⟨#[48, UInt8.ofNat n.1]⟩ = (match hexV (UInt8.ofNat n.1) with | some _ => 0 | none => 2) ∧ hexBytes ⟨#[48, UInt8.ofNat n.1]⟩ = (match hexV (UInt8.ofNat n.1) with | some x => [UInt8.ofNat x] | none => []) := by decide +kernel
theorem hex_yes {c : UInt8} {x : Nat} (h : hexV c = some x) : hexErr ⟨#[48, c]⟩ = 0 ∧ hexBytes ⟨#[48, c]⟩ = [UInt8.ofNat x] := by
  have := hex_fin ⟨c.toNat, c.toNat_lt⟩
  simp only [UInt8.ofNat_toNat, h] at this
  exact this
theorem hex_no {c : UInt8} (h : hexV c = none) : hexErr ⟨#[48, c]⟩ = 2 ∧ hexBytes ⟨#[48, c]⟩ = [] := by
  have := hex_fin ⟨c.toNat, c.toNat_lt⟩
  simp only [UInt8.ofNat_toNat, h] at this
  exact this
theorem hex_none : hexErr ⟨#[48]⟩ = 2 ∧ hexBytes ⟨#[48]⟩ = [] := by decide +kernel
theorem but_below {w w' : World} (D : Nat) (h : Below w.heap.size w w') : But D w.heap.size w w' := But.of h
theorem but_trans {D : Nat} {w w1 w2 : World} (h : But D w.heap.size w w1) (k : But D w1.heap.size w1 w2) : But D w.heap.size w w2 := h.trans (k.mono h.size)
theorem RdB.at {w : World} {D : Nat} {s : ByteArray} {k : Nat} {vl : Value} (h : RdB w D s k vl) {j : Int} {m : Nat} (hj : j = (m : Int)) : RdB (w.setCell ⟨D, 1, none⟩ (.int .i64 j)) D s m vl := by
  subst hj; exact h.go m
theorem RdB.noByte {w : World} {D : Nat} {s : ByteArray} {k : Nat} {vl : Value} (h : RdB w D s k vl) {off : Nat} {x : Int} (hc : w.cell? ⟨D, off, none⟩ = some (.int .u8 x)) (hv : ∀ y, vl ≠ .int .u8 y) : False := by
  unfold RdB at h
  rw [Lib.cell_of_heap h] at hc
  match off, hc with
  | 0, hc => simp at hc
  | 1, hc => simp at hc
  | 2, hc => simp at hc; exact hv _ hc
  | n + 3, hc => simp at hc
/-- The digit at a place, if there is one. -/
def digV (l : List UInt8) : Option Nat := match l with
  | [] => none
  | c :: _ => hexV c
def hexS (l : List UInt8) : ByteArray := ⟨(48 :: l.take 1).toArray⟩
theorem digV_yes {l : List UInt8} {x : Nat} (h : digV l = some x) : hexErr (hexS l) = 0 ∧ hexBytes (hexS l) = [UInt8.ofNat x] := by
  cases l with
  | nil => cases h
  | cons c t => exact hex_yes h
theorem digV_no {l : List UInt8} (h : digV l = none) : hexErr (hexS l) = 2 ∧ hexBytes (hexS l) = [] := by
  cases l with
  | nil => exact hex_none
  | cons c t => exact hex_no h
theorem hexS_size (l : List UInt8) : (hexS l).size ≤ 2 := by
  unfold hexS
  show (48 :: l.take 1).toArray.size ≤ 2
  simp; omega
theorem hexS_add (l : List UInt8) : (⟨#[48]⟩ : ByteArray) ++ frS l = hexS l := by
  apply ByteArray.ext
  unfold hexS frS
  simp
theorem frS_size (l : List UInt8) : ¬ 9223372036854775807 < 1 + (frS l).size := by
  have : (frS l).size ≤ 1 := by
    unfold frS
    show (l.take 1).toArray.size ≤ 1
    simp; omega
  omega
set_option maxHeartbeats 1000000 in
theorem digit_yes {w : World} {D : Nat} {s : ByteArray} {k x : Nat} {vl : Value} (h : RdB w D s k vl) (hs : s.size ≤ 1000000000) (hk : k ≤ s.size) (hv : ∀ y, vl ≠ .int .u8 y) (hx : digV (tl s k) = some x) (hx16 : x < 16) :
    Calls Tryz.prog 118 #[.pointer (some ⟨D, 0, none⟩)] w fun e w' => e = .returned (.int .u8 x) ∧ RdB w' D s (k + 1) vl ∧ But D w.heap.size w w' := by
  have KF := Lib.hid (front_any h hs hk)
  obtain ⟨q1, q2⟩ := digV_yes hx
  have KH := Lib.hid fun W => readHex_any (hexS (tl s k)) W (by have := hexS_size (tl s k); unfold maxLen; omega) (by have := hexS_size (tl s k); omega)
  rw [q1, q2] at KH
  have H := Lib.hid h
  have hadd := hexS_add (tl s k)
  have hsz := frS_size (tl s k)
  have wk : IntKind.i64.wrap ((k : Int) + 1) = (k : Int) + 1 := by rw [IntKind.wrap_i64]; omega
  have KM := Lib.hid must_yes
  clear h hx q1 q2
  go_enter Tryz.func118, Tryz.ntmps118
  go_wp2_with fail
  refine KF.out.mono ?_
  rintro e w1 ⟨rfl, hb1⟩
  go_wp2_with fail
  refine (KH.out _).mono ?_
  rintro e w2 ⟨al, cp, rfl, hb2, hB⟩
  have hb := hb1.trans (hb2.mono hb1.size)
  have H2 := Lib.hid (H.out.below hb)
  have HB := Lib.hid hb
  have hbyte : (UInt8.ofNat x).toNat = x := UInt8.toNat_ofNat_of_lt' (by show x < 256; omega)
  obtain ⟨b, off, rfl, hlt, hc⟩ : ∃ b off, al = some ⟨b, off, none⟩ ∧ b < w2.heap.size ∧ w2.cell? ⟨b, off, none⟩ = some (.int .u8 x) := by
    obtain ⟨_, h | ⟨b, off, rfl, hlt, hc⟩⟩ := hB
    · simp at h
    · have := hc 0 (by simp)
      simp only [List.getElem_cons_zero, hbyte] at this
      exact ⟨b, off, rfl, hlt, this⟩
  have hbD : ¬ b = D := fun e => by subst e; exact H2.out.noByte hc hv
  have hbD' : ¬ D = b := fun e => hbD e.symm
  clear hb1 hb2 hB hb hbyte hadd hsz
  go_wp2_with fail
  refine (KM.out _ _).mono ?_
  rintro e w3 ⟨rfl, rfl⟩
  obtain ⟨c0, c1, c2⟩ := H2.out.cells
  obtain ⟨f0, f1, f2⟩ := H2.out.frozen
  go_wp2
  go_ret
  exact ⟨rfl, H2.out.go _, (But.of HB.out).set _ _⟩
set_option maxHeartbeats 1000000 in
theorem digit_no {w : World} {D : Nat} {s : ByteArray} {k : Nat} {vl : Value} (h : RdB w D s k vl) (hs : s.size ≤ 1000000000) (hk : k ≤ s.size) (hx : digV (tl s k) = none) :
    Calls Tryz.prog 118 #[.pointer (some ⟨D, 0, none⟩)] w fun e w' => e = thr k ∧ Below w.heap.size w w' := by
  have KF := Lib.hid (front_any h hs hk)
  obtain ⟨q1, q2⟩ := digV_no hx
  have KH := Lib.hid fun W => readHex_any (hexS (tl s k)) W (by have := hexS_size (tl s k); unfold maxLen; omega) (by have := hexS_size (tl s k); omega)
  rw [q1, q2] at KH
  have H := Lib.hid h
  have hadd := hexS_add (tl s k)
  have hsz := frS_size (tl s k)
  clear h hx q1 q2
  go_enter Tryz.func118, Tryz.ntmps118
  go_wp2_with fail
  refine KF.out.mono ?_
  rintro e w1 ⟨rfl, hb1⟩
  go_wp2_with fail
  refine (KH.out _).mono ?_
  rintro e w2 ⟨al, cp, rfl, hb2, hB⟩
  have hb := hb1.trans (hb2.mono hb1.size)
  have KM := Lib.hid (must_no (H.out.below hb))
  have HB := Lib.hid hb
  clear hb1 hb2 hB hb hadd hsz
  go_wp2_with fail
  refine KM.out.mono ?_
  rintro e w3 ⟨rfl, rfl⟩
  unfold thr
  go_wp2
  exact ⟨rfl, rfl, HB.out⟩
theorem tl_tail (s : ByteArray) (k : Nat) : (tl s k).tail = tl s (k + 1) := by unfold tl; rw [List.tail_drop]
theorem sgn_dig0 {l : List UInt8} (h : digV l = none) : sgn (92 :: l) = .bad l := by
  cases l with
  | nil => exact sgn_92_nil
  | cons d t => exact sgn_92_no t h
theorem sgn_dig1 {l : List UInt8} {x : Nat} (h : digV l = some x) (h' : digV l.tail = none) : sgn (92 :: l) = .bad l.tail := by
  cases l with
  | nil => cases h
  | cons d t => cases t with
    | nil => exact sgn_92_one h
    | cons d' u => exact sgn_92_two u h h'
theorem sgn_dig2 {l : List UInt8} {x y : Nat} (h : digV l = some x) (h' : digV l.tail = some y) : sgn (92 :: l) = .ok (16 * x + y) l.tail.tail := by
  cases l with
  | nil => cases h
  | cons d t => cases t with
    | nil => cases h'
    | cons d' u => exact sgn_92_yes u h h'
theorem digV_lt {l : List UInt8} {x : Nat} (h : digV l = some x) : x < 16 ∧ l ≠ [] := by
  cases l with
  | nil => cases h
  | cons d t => exact ⟨hexV_lt h, by simp⟩
/-- What sign answers. -/
def SgnPost (D : Nat) (s : ByteArray) (vl : Value) (w : World) (r : SR) (e : Ending) (w' : World) : Prop := But D w.heap.size w w' ∧ match r with
  | .ok b l1 => e = .returned (.int .u8 (b : Int)) ∧ RdB w' D s (s.size - l1.length) vl
  | .bad r => e = thr (s.size - r.length)
theorem sgnPost_bad {D : Nat} {s : ByteArray} {vl : Value} {w w' : World} {k : Nat} {e : Ending} (he : e = thr k) (hb : But D w.heap.size w w') (hk : k ≤ s.size) : SgnPost D s vl w (.bad (tl s k)) e w' := by
  refine ⟨hb, ?_⟩
  show e = thr _
  rw [he, tl_len, show s.size - (s.size - k) = k from by omega]
theorem sgnPost_ok {D : Nat} {s : ByteArray} {vl : Value} {w w' : World} {k b : Nat} {e : Ending} (he : e = .returned (.int .u8 (b : Int))) (hr : RdB w' D s k vl) (hb : But D w.heap.size w w') (hk : k ≤ s.size) : SgnPost D s vl w (.ok b (tl s k)) e w' := by
  refine ⟨hb, he, ?_⟩
  rw [tl_len, show s.size - (s.size - k) = k from by omega]; exact hr
/-- A text of one byte. -/
def OneB (f : ByteArray) (c : UInt8) : Prop := f = ⟨#[c]⟩
theorem frS_one (c : UInt8) (t : List UInt8) : OneB (frS (c :: t)) c := rfl
theorem OneB.list {f : ByteArray} {c : UInt8} (h : OneB f c) : f.toList = [c] := by
  rw [h, Go.ByteArray.toList_eq]
theorem OneB.size {f : ByteArray} {c : UInt8} (h : OneB f c) : 0 < f.size ∧ f.size = 1 := by
  rw [h]
  exact ⟨Nat.zero_lt_one, rfl⟩
theorem OneB.get {f : ByteArray} {c : UInt8} (h : OneB f c) (hs : 0 < f.size) : f[0] = c := by
  unfold OneB at h
  subst h
  rfl
theorem own1_fin : ∀ n : Fin 256, (signL n.1 == [UInt8.ofNat n.1]) = ownB (UInt8.ofNat n.1) := by decide +kernel
theorem sign_own1 (c : UInt8) : (signL c.toNat == [c]) = ownB c := by
  have := own1_fin ⟨c.toNat, c.toNat_lt⟩
  simpa using this
set_option maxHeartbeats 2000000 in
theorem rsign_end {w : World} {D : Nat} {s : ByteArray} {k : Nat} {vl : Value} (h : RdB w D s k vl) (hs : s.size ≤ 1000000000) (hk : k = s.size) :
    Calls Tryz.prog 105 #[.pointer (some ⟨D, 0, none⟩)] w (SgnPost D s vl w (sgn (tl s k))) := by
  have KF := Lib.hid (front_any h hs (by omega))
  have hz : tl s k = [] := tl_nil s k (by omega)
  have hsg : sgn (tl s k) = .bad (tl s k) := by rw [hz]; rfl
  rw [hsg]
  rw [hz] at KF
  have d1 : (frS []).toList = [] := by rw [Go.ByteArray.toList_eq]; rfl
  have H := Lib.hid h
  generalize frS [] = f at *
  have d2 : (f.toList == [92]) = false := by rw [d1]; rfl
  clear h hz hsg
  go_enter Tryz.func105, Tryz.ntmps105
  go_wp2_with fail
  refine KF.out.mono ?_
  rintro e w1 ⟨rfl, hb1⟩
  have KM := Lib.hid (must_no (H.out.below hb1))
  go_wp2_with fail
  refine KM.out.mono ?_
  rintro e w3 ⟨rfl, rfl⟩
  unfold thr
  go_wp2
  exact ⟨rfl, sgnPost_bad rfl (But.of hb1) (by omega)⟩
set_option maxHeartbeats 2000000 in
theorem rsign_own {w : World} {D : Nat} {s : ByteArray} {k : Nat} {vl : Value} (h : RdB w D s k vl) (hs : s.size ≤ 1000000000) (hk : k < s.size) (h92 : s[k] ≠ 92) :
    Calls Tryz.prog 105 #[.pointer (some ⟨D, 0, none⟩)] w (SgnPost D s vl w (sgn (tl s k))) := by
  have KF := Lib.hid (front_any h hs (by omega))
  have hz := tl_cons s k hk
  rw [hz] at KF
  have h1 := frS_one s[k] (tl s (k + 1))
  have hsg : sgn (tl s k) = if ownB s[k] = true then .ok s[k].toNat (tl s (k + 1)) else .bad (tl s k) := by rw [hz]; exact sgn_own _ _ h92
  rw [hsg]
  have H := Lib.hid h
  generalize frS (s[k] :: tl s (k + 1)) = f at *
  have hn := s[k].toNat_lt
  have HC := Lib.hid h1.list
  have d1 : (f.toList == [92]) = false := by rw [HC.out]; simp; exact h92
  have d2 : f.toList.isEmpty = false := by rw [HC.out]; rfl
  have d3 := h1.size.1
  have d4 : f[0].toNat = s[k].toNat := by rw [h1.get d3]
  have d5 : ¬ f.toList = [] := by rw [HC.out]; simp
  have KS := Lib.hid fun W => sign_any s[k].toNat W hn
  have wk : IntKind.i64.wrap ((k : Int) + 1) = (k : Int) + 1 := by rw [IntKind.wrap_i64]; omega
  clear h hz hsg h92
  cases ho : ownB s[k] with
  | true =>
    rw [if_pos rfl]
    have HO := Lib.hid ho
    clear ho
    go_enter Tryz.func105, Tryz.ntmps105
    go_wp2_with fail
    refine KF.out.mono ?_
    rintro e w1 ⟨rfl, hb1⟩
    go_wp2_with fail
    refine (KS.out _).mono ?_
    rintro e w2 ⟨rfl, hb2⟩
    have hb := hb1.trans (hb2.mono hb1.size)
    have HB := Lib.hid hb
    have H2 := Lib.hid (H.out.below hb)
    have d6 : (signL s[k].toNat == f.toList) = true := by rw [HC.out, sign_own1, HO.out]
    have KM := Lib.hid must_yes
    clear h1 hb hb1 hb2
    go_wp2_with fail
    refine (KM.out _ _).mono ?_
    rintro e w3 ⟨rfl, rfl⟩
    obtain ⟨c0, c1, c2⟩ := H2.out.cells
    obtain ⟨f0, f1, f2⟩ := H2.out.frozen
    go_wp2
    go_ret
    exact sgnPost_ok rfl (H2.out.go (k + 1)) ((But.of HB.out).set _ _) (by omega)
  | false =>
    rw [if_neg (by simp)]
    have HO := Lib.hid ho
    clear ho
    go_enter Tryz.func105, Tryz.ntmps105
    go_wp2_with fail
    refine KF.out.mono ?_
    rintro e w1 ⟨rfl, hb1⟩
    go_wp2_with fail
    refine (KS.out _).mono ?_
    rintro e w2 ⟨rfl, hb2⟩
    have hb := hb1.trans (hb2.mono hb1.size)
    have HB := Lib.hid hb
    have H2 := Lib.hid (H.out.below hb)
    have d6 : (signL s[k].toNat == f.toList) = false := by rw [HC.out, sign_own1, HO.out]
    have KM := Lib.hid (must_no H2.out)
    clear h1 hb hb1 hb2
    go_wp2_with fail
    refine KM.out.mono ?_
    rintro e w3 ⟨rfl, rfl⟩
    unfold thr
    go_wp2
    exact ⟨rfl, sgnPost_bad rfl (But.of HB.out) (by omega)⟩
set_option maxHeartbeats 2000000 in
theorem rsign_hex {w : World} {D : Nat} {s : ByteArray} {k : Nat} {vl : Value} (h : RdB w D s k vl) (hs : s.size ≤ 1000000000) (hk : k < s.size) (hv : ∀ y, vl ≠ .int .u8 y) (h92 : s[k] = 92) :
    Calls Tryz.prog 105 #[.pointer (some ⟨D, 0, none⟩)] w (SgnPost D s vl w (sgn (tl s k))) := by
  have KF := Lib.hid (front_any h hs (by omega))
  have hz := tl_cons s k hk
  rw [hz, h92] at KF
  rw [hz, h92]
  have h1 := frS_one 92 (tl s (k + 1))
  have H := Lib.hid h
  generalize frS (92 :: tl s (k + 1)) = f at *
  have d1 : (f.toList == [92]) = true := by rw [h1.list]; rfl
  have wk : IntKind.i64.wrap ((k : Int) + 1) = (k : Int) + 1 := by rw [IntKind.wrap_i64]; omega
  have ht := tl_tail s (k + 1)
  clear h hz h92 h1
  cases hx : digV (tl s (k + 1)) with
  | none =>
    rw [sgn_dig0 hx]
    have HX := Lib.hid hx
    clear hx ht
    go_enter Tryz.func105, Tryz.ntmps105
    go_wp2_with fail
    refine KF.out.mono ?_
    rintro e w1 ⟨rfl, hb1⟩
    have H1 := Lib.hid (H.out.below hb1)
    obtain ⟨c0, c1, c2⟩ := H1.out.cells
    obtain ⟨f0, f1, f2⟩ := H1.out.frozen
    have KD := Lib.hid (digit_no (H1.out.go (k + 1)) hs (by omega) HX.out)
    go_wp2_with fail
    refine KD.out.mono ?_
    rintro e w2 ⟨rfl, hb2⟩
    unfold thr
    go_wp2
    exact ⟨rfl, sgnPost_bad rfl (but_trans ((But.of hb1).set _ _) (But.of hb2)) (by omega)⟩
  | some x =>
    obtain ⟨hx16, hne⟩ := digV_lt hx
    have hk2 : k + 1 < s.size := by
      rcases Nat.lt_or_ge (k + 1) s.size with h | h
      · exact h
      · exact absurd (tl_nil s _ h) hne
    cases hy : digV (tl s (k + 2)) with
    | none =>
      rw [sgn_dig1 hx (by rw [ht]; exact hy), ht]
      have HX := Lib.hid hx
      have HY := Lib.hid hy
      clear hx ht hy hne
      go_enter Tryz.func105, Tryz.ntmps105
      go_wp2_with fail
      refine KF.out.mono ?_
      rintro e w1 ⟨rfl, hb1⟩
      have H1 := Lib.hid (H.out.below hb1)
      obtain ⟨c0, c1, c2⟩ := H1.out.cells
      obtain ⟨f0, f1, f2⟩ := H1.out.frozen
      have KD := Lib.hid (digit_yes (H1.out.go (k + 1)) hs (by omega) hv HX.out hx16)
      have BT := Lib.hid ((But.of hb1).set (g := D) 1 (.int .i64 ((k + 1 : Nat) : Int)))
      clear hb1
      go_wp2_with fail
      refine KD.out.mono ?_
      rintro e w2 ⟨rfl, hr2, hb2⟩
      have KE := Lib.hid (digit_no hr2 hs (by omega) HY.out)
      have BT2 := Lib.hid (but_trans BT.out hb2)
      clear hr2 hb2 c0 c1 c2 f0 f1 f2
      go_wp2_with fail
      refine KE.out.mono ?_
      rintro e w3 ⟨rfl, hb3⟩
      unfold thr
      go_wp2
      exact ⟨rfl, sgnPost_bad rfl (but_trans BT2.out (But.of hb3)) (by omega)⟩
    | some y =>
      obtain ⟨hy16, hne2⟩ := digV_lt hy
      have hk3 : k + 2 < s.size := by
        rcases Nat.lt_or_ge (k + 2) s.size with h | h
        · exact h
        · exact absurd (tl_nil s _ h) hne2
      rw [sgn_dig2 hx (by rw [ht]; exact hy), ht, tl_tail]
      have w16 : IntKind.u8.wrap (16 * (x : Int)) = 16 * (x : Int) := by rw [IntKind.wrap_u8]; omega
      have w17 : IntKind.u8.wrap (16 * (x : Int) + (y : Int)) = ((16 * x + y : Nat) : Int) := by rw [IntKind.wrap_u8]; omega
      have HX := Lib.hid hx
      have HY := Lib.hid hy
      clear hx ht hy hne hne2
      go_enter Tryz.func105, Tryz.ntmps105
      go_wp2_with fail
      refine KF.out.mono ?_
      rintro e w1 ⟨rfl, hb1⟩
      have H1 := Lib.hid (H.out.below hb1)
      obtain ⟨c0, c1, c2⟩ := H1.out.cells
      obtain ⟨f0, f1, f2⟩ := H1.out.frozen
      have KD := Lib.hid (digit_yes (H1.out.go (k + 1)) hs (by omega) hv HX.out hx16)
      have BT := Lib.hid ((But.of hb1).set (g := D) 1 (.int .i64 ((k + 1 : Nat) : Int)))
      clear hb1
      go_wp2_with fail
      refine KD.out.mono ?_
      rintro e w2 ⟨rfl, hr2, hb2⟩
      have KE := Lib.hid (digit_yes hr2 hs (by omega) hv HY.out hy16)
      have BT2 := Lib.hid (but_trans BT.out hb2)
      clear hr2 hb2 c0 c1 c2 f0 f1 f2
      go_wp2_with fail
      refine KE.out.mono ?_
      rintro e w3 ⟨rfl, hr3, hb3⟩
      have HR3 := Lib.hid hr3
      have BT3 := Lib.hid (but_trans BT2.out hb3)
      clear hr3 hb3
      go_wp2
      go_ret
      exact sgnPost_ok (by simp) HR3.out BT3.out (by omega)
theorem rsign_any {w : World} {D : Nat} {s : ByteArray} {k : Nat} {vl : Value} (h : RdB w D s k vl) (hs : s.size ≤ 1000000000) (hk : k ≤ s.size) (hv : ∀ y, vl ≠ .int .u8 y) :
    Calls Tryz.prog 105 #[.pointer (some ⟨D, 0, none⟩)] w (SgnPost D s vl w (sgn (tl s k))) := by
  by_cases hlt : k < s.size
  · by_cases h92 : s[k] = 92
    · exact rsign_hex h hs hlt hv h92
    · exact rsign_own h hs hlt h92
  · exact rsign_end h hs (by omega)
end Go.Proofs.YtfmdcnfniimkoaaGreat
/- The landed reader's item, items: what is read, or the place that is thrown. -/
namespace Go.Proofs.YtfmdcnfniimkoaaGreat
open Go.RowKit
theorem lpos {s : ByteArray} {i : Nat} {l : List UInt8} (h : l <:+ tl s i) : ∃ k, k ≤ s.size ∧ s.size - l.length = k ∧ l = tl s k ∧ l.length = s.size - k := by
  obtain ⟨h1, h2⟩ := tl_suffix h
  exact ⟨s.size - l.length, by omega, rfl, h1, by omega⟩
theorem pcons {s : ByteArray} {i : Nat} {c : UInt8} {t : List UInt8} (h : tl s i = c :: t) : i < s.size ∧ tl s (i + 1) = t ∧ ∃ hi : i < s.size, s[i] = c := by
  have hi : i < s.size := by
    rcases Nat.lt_or_ge i s.size with h' | h'
    · exact h'
    · rw [tl_nil s i h'] at h; cases h
  rw [tl_cons s i hi] at h
  cases h
  exact ⟨hi, rfl, hi, rfl⟩
/-- What an item is: a set, and what is left. -/
inductive IR where
  | ok (s : Ws) (l : List UInt8)
  | bad (l : List UInt8)
def itemR (l : List UInt8) : IR := match sgn l with
  | .bad r => .bad r
  | .ok b l1 => match l1 with
    | [] => .ok (rngW b b) []
    | c :: l2 => if c = 45 then (match sgn l2 with
      | .bad r => .bad r
      | .ok b' l3 => if b' < b then .bad l2 else .ok (rngW b b') l3) else .ok (rngW b b) (c :: l2)
theorem item_bad1 {l r : List UInt8} (h : sgn l = .bad r) : itemR l = .bad r := by unfold itemR; rw [h]
theorem item_one {l l1 : List UInt8} {b : Nat} (h : sgn l = .ok b l1) (hn : NotAt 45 l1) : itemR l = .ok (rngW b b) l1 := by
  unfold itemR; rw [h]
  cases l1 with
  | nil => rfl
  | cons c t =>
    have : ¬ c = 45 := fun e => hn t (by rw [e])
    simp only [if_neg this]
theorem item_bad2 {l l2 r : List UInt8} {b : Nat} (h : sgn l = .ok b (45 :: l2)) (h2 : sgn l2 = .bad r) : itemR l = .bad r := by
  unfold itemR; rw [h]; simp only [if_true, h2]
theorem item_less {l l2 l3 : List UInt8} {b b' : Nat} (h : sgn l = .ok b (45 :: l2)) (h2 : sgn l2 = .ok b' l3) (hl : b' < b) : itemR l = .bad l2 := by
  unfold itemR; rw [h]; simp only [if_true, h2, if_pos hl]
theorem item_range {l l2 l3 : List UInt8} {b b' : Nat} (h : sgn l = .ok b (45 :: l2)) (h2 : sgn l2 = .ok b' l3) (hl : b ≤ b') : itemR l = .ok (rngW b b') l3 := by
  have : ¬ b' < b := by omega
  unfold itemR; rw [h]; simp only [if_true, h2, if_neg this]
def ItemPost (D : Nat) (s : ByteArray) (vl : Value) (w : World) (r : IR) (e : Ending) (w' : World) : Prop := But D w.heap.size w w' ∧ match r with
  | .ok q l1 => e = .returned q.v ∧ RdB w' D s (s.size - l1.length) vl
  | .bad r => e = thr (s.size - r.length)
theorem item_done {D : Nat} {s : ByteArray} {vl : Value} {w w3 : World} {q : Ws} {l1 : List UInt8} {k1 g : Nat} {e : Ending} {v0 v1 v2 v3 : Value} (hp : s.size - l1.length = k1) (hg : D < g) (hb : But D w.heap.size w w3) (hr : RdB w3 D s k1 vl) (he : e = .returned q.v) (hge : w.heap.size ≤ g) :
    ItemPost D s vl w (.ok q l1) e ((((w3.setCell ⟨g, 0, none⟩ v0).setCell ⟨g, 1, none⟩ v1).setCell ⟨g, 2, none⟩ v2).setCell ⟨g, 3, none⟩ v3) := by
  have hk : ∀ b, b ≠ g → ((((w3.setCell ⟨g, 0, none⟩ v0).setCell ⟨g, 1, none⟩ v1).setCell ⟨g, 2, none⟩ v2).setCell ⟨g, 3, none⟩ v3).heap[b]? = w3.heap[b]? := fun b h => by
    rw [Below.heap_setCell _ _ _ _ h, Below.heap_setCell _ _ _ _ h, Below.heap_setCell _ _ _ _ h, Below.heap_setCell _ _ _ _ h]
  refine ⟨⟨hb.os, hb.tape, hb.output, by simpa [World.setCell] using hb.size, fun b h1 h2 => (hk b (by omega)).trans (hb.block b h1 h2)⟩, he, ?_⟩
  rw [hp]
  exact hr.of (hk D (by omega))
theorem ret_one (b : Nat) (hb : b < 256) : ofN (natsOf [UInt8.ofNat b]) = rngW b b := by
  have : (UInt8.ofNat b).toNat = b := UInt8.toNat_ofNat_of_lt' (by show b < 256; omega)
  unfold rngW natsOf
  rw [show b + 1 - b = 1 from by omega]
  simp [this, List.range']
set_option maxHeartbeats 2000000 in
theorem item_any {w : World} {D : Nat} {s : ByteArray} {k : Nat} {vl : Value} (h : RdB w D s k vl) (hs : s.size ≤ 1000000000) (hk : k ≤ s.size) (hv : ∀ y, vl ≠ .int .u8 y) :
    Calls Tryz.prog 117 #[.pointer (some ⟨D, 0, none⟩)] w (ItemPost D s vl w (itemR (tl s k))) := by
  have hD := h.lt
  have h0 : Below w.heap.size w (w.alloc (.cells #[.int .u64 0, .int .u64 0, .int .u64 0, .int .u64 0] 24)) := (Below.refl _ w).alloc (Nat.le_refl _) _
  have KS := Lib.hid (rsign_any (h.below h0) hs hk hv)
  cases hsg : sgn (tl s k) with
  | bad r =>
    rw [hsg] at KS
    rw [item_bad1 hsg]
    clear hsg h
    go_enter Tryz.func117, Tryz.ntmps117
    go_wp2_with fail
    refine KS.out.mono ?_
    rintro e w1 ⟨hb1, he⟩
    simp only at he
    subst he
    unfold thr
    go_wp2
    exact ⟨rfl, but_trans (But.of h0) hb1, rfl⟩
  | ok b l1 =>
    rw [hsg] at KS
    obtain ⟨hb256, hsuf, hll⟩ := sgn_ok hsg
    obtain ⟨k1, hk1, hpos1, hl1, hln1⟩ := lpos hsuf
    have hbyte : (UInt8.ofNat b).toNat = b := UInt8.toNat_ofNat_of_lt' (by show b < 256; omega)
    have hwk : IntKind.i64.wrap ((k1 : Int) + 1) = (k1 : Int) + 1 := by rw [IntKind.wrap_i64]; omega
    have HSG := Lib.hid hsg
    have HL1 := Lib.hid hl1
    have h0b : (w.alloc (.cells #[.int .u64 0, .int .u64 0, .int .u64 0, .int .u64 0] 24)).heap[w.heap.size]? = some (.cells #[.int .u64 0, .int .u64 0, .int .u64 0, .int .u64 0] 24) := blk_new w _
    rcases notAt_or 45 l1 with h45 | ⟨l2, h45⟩
    · rw [item_one hsg h45]
      have hfr : (frS l1).toList = [] ∨ ∃ c, c ≠ 45 ∧ OneB (frS l1) c := by
        cases l1 with
        | nil => left; rw [Go.ByteArray.toList_eq]; rfl
        | cons c t => exact .inr ⟨c, fun e => h45 t (by rw [e]), frS_one c t⟩
      have d1 : ((frS (tl s k1)).toList == [45]) = false := by
        rw [← hl1]
        rcases hfr with e | ⟨c, hc, e⟩
        · rw [e]; rfl
        · rw [e.list]; simp; exact hc
      clear hsg h hl1 hsuf hfr h45 h0b
      go_enter Tryz.func117, Tryz.ntmps117
      go_wp2_with fail
      refine KS.out.mono ?_
      rintro e w1 ⟨hb1, he, hr1⟩
      subst he
      rw [hpos1] at hr1
      have KF := Lib.hid (front_any hr1 hs hk1)
      have HR1 := Lib.hid hr1
      have BT1 := Lib.hid (but_trans (But.of h0) hb1)
      have hx1 : Box w1 w.heap.size Ws.nil := (hb1.block _ (by simp) (by omega)).trans (blk_new w _)
      have HX1 := Lib.hid hx1
      clear hr1 hb1 hx1
      generalize frS (tl s k1) = f at *
      go_wp2_with fail
      refine KF.out.mono ?_
      rintro e w2 ⟨rfl, hb2⟩
      have BT2 := Lib.hid (but_trans BT1.out (But.of hb2))
      have HR2 := Lib.hid (HR1.out.below hb2)
      have HX2 := Lib.hid (HX1.out.below hb2 HX1.out.lt)
      have KO := Lib.hid (setOf_any (some ⟨w2.heap.size, 0, none⟩) [UInt8.ofNat b] 1 (w2.alloc (.cells #[.int .u8 (b : Int)] 5)) (one_byte w2 b hb256))
      rw [ret_one b hb256] at KO
      clear hb2
      go_wp2_with fail
      refine KO.out.mono ?_
      rintro e w3 ⟨rfl, hb3⟩
      have hba : Below w2.heap.size w2 w3 := ((Below.refl _ w2).alloc (Nat.le_refl _) _).trans (hb3.mono (by simp))
      have BT3 := Lib.hid (but_trans BT2.out (But.of hba))
      have HR3 := Lib.hid (HR2.out.below hba)
      have hx3 := HX2.out.below hba HX2.out.lt
      clear hba hb3
      obtain ⟨⟨c0, c1, c2, c3⟩, f0, f1, f2, f3⟩ := hx3.all
      simp only [Ws.nil] at c0 c1 c2 c3
      generalize rngW b b = q at *
      obtain ⟨qa, qb, qc, qd⟩ := q
      unfold Ws.v
      go_wp2
      exact ret_box (hx3.put4 _ _ _ _) Tryz.results117 rfl rfl (item_done hpos1 (by omega) BT3.out HR3.out rfl (Nat.le_refl _))
    · subst h45
      obtain ⟨hk1', htl2, hk1'', hc45⟩ := pcons HL1.out.symm
      have hln2 : l2.length = s.size - (k1 + 1) := by rw [← htl2, tl_len]
      have hfr := frS_one 45 l2
      have d1 : ((frS (tl s k1)).toList == [45]) = true := by rw [← hl1, hfr.list]; rfl
      cases hsg2 : sgn l2 with
      | bad r =>
        rw [item_bad2 hsg hsg2]
        have HSG2 := Lib.hid (show sgn (tl s (k1 + 1)) = .bad r from by rw [htl2]; exact hsg2)
        clear hsg hsg2 h hl1 hsuf hfr h0b htl2 hc45 hk1''
        go_enter Tryz.func117, Tryz.ntmps117
        go_wp2_with fail
        refine KS.out.mono ?_
        rintro e w1 ⟨hb1, he, hr1⟩
        subst he
        rw [hpos1] at hr1
        have KF := Lib.hid (front_any hr1 hs hk1)
        have HR1 := Lib.hid hr1
        have BT1 := Lib.hid (but_trans (But.of h0) hb1)
        clear hr1 hb1
        generalize frS (tl s k1) = f at *
        go_wp2_with fail
        refine KF.out.mono ?_
        rintro e w2 ⟨rfl, hb2⟩
        have hr2 := HR1.out.below hb2
        obtain ⟨c0, c1, c2⟩ := hr2.cells
        obtain ⟨f0, f1, f2⟩ := hr2.frozen
        have hr3 := hr2.go (k1 + 1)
        obtain ⟨g0, g1, g2⟩ := hr3.cells
        have BT3 := Lib.hid ((but_trans BT1.out (But.of hb2)).set 1 (.int .i64 ((k1 + 1 : Nat) : Int)))
        have KS2 := Lib.hid (rsign_any hr3 hs (by omega) hv)
        rw [HSG2.out] at KS2
        clear hr2 hr3 hb2
        go_wp2_with fail
        refine KS2.out.mono ?_
        rintro e w4 ⟨hb4, he⟩
        simp only at he
        subst he
        unfold thr
        go_wp2
        exact ⟨rfl, but_trans BT3.out hb4, rfl⟩
      | ok b' l3 =>
        obtain ⟨hb256', hsuf2, hll2⟩ := sgn_ok hsg2
        obtain ⟨k3, hk3, hpos3, hl3, hln3⟩ := lpos (s := s) (i := k1 + 1) (by rw [htl2]; exact hsuf2)
        have HSG2 := Lib.hid (show sgn (tl s (k1 + 1)) = .ok b' l3 from by rw [htl2]; exact hsg2)
        by_cases hless : b' < b
        · rw [item_less hsg hsg2 hless]
          have q1 : decide ((b' : Int) < (b : Int)) = true := by simp; omega
          have q2 : decide (b' < b) = true := by simp; omega
          clear hsg hsg2 h hl1 hsuf hfr h0b htl2 hc45 hk1'' hsuf2 hl3
          go_enter Tryz.func117, Tryz.ntmps117
          go_wp2_with fail
          refine KS.out.mono ?_
          rintro e w1 ⟨hb1, he, hr1⟩
          subst he
          rw [hpos1] at hr1
          have KF := Lib.hid (front_any hr1 hs hk1)
          have HR1 := Lib.hid hr1
          have BT1 := Lib.hid (but_trans (But.of h0) hb1)
          clear hr1 hb1
          generalize frS (tl s k1) = f at *
          go_wp2_with fail
          refine KF.out.mono ?_
          rintro e w2 ⟨rfl, hb2⟩
          have hr2 := HR1.out.below hb2
          obtain ⟨c0, c1, c2⟩ := hr2.cells
          obtain ⟨f0, f1, f2⟩ := hr2.frozen
          have hr3 := hr2.go (k1 + 1)
          obtain ⟨g0, g1, g2⟩ := hr3.cells
          have BT3 := Lib.hid ((but_trans BT1.out (But.of hb2)).set 1 (.int .i64 ((k1 + 1 : Nat) : Int)))
          have KS2 := Lib.hid (rsign_any hr3 hs (by omega) hv)
          rw [HSG2.out] at KS2
          clear hr2 hr3 hb2
          go_wp2_with fail
          refine KS2.out.mono ?_
          rintro e w4 ⟨hb4, he, hr4⟩
          subst he
          have BT4 := Lib.hid (but_trans BT3.out hb4)
          clear hr4 hb4 hless
          go_wp2
          refine ⟨rfl, BT4.out, ?_⟩
          show _ = thr (s.size - l2.length)
          rw [hln2, show s.size - (s.size - (k1 + 1)) = k1 + 1 from by omega]
          rfl
        · rw [item_range hsg hsg2 (by omega)]
          have q1 : decide ((b' : Int) < (b : Int)) = false := by simp; omega
          have q2 : decide (b' < b) = false := by simp; omega
          have KR := Lib.hid fun W => range_any b b' W hb256 hb256'
          clear hsg hsg2 h hl1 hsuf hfr h0b htl2 hc45 hk1'' hsuf2 hl3
          go_enter Tryz.func117, Tryz.ntmps117
          go_wp2_with fail
          refine KS.out.mono ?_
          rintro e w1 ⟨hb1, he, hr1⟩
          subst he
          rw [hpos1] at hr1
          have KF := Lib.hid (front_any hr1 hs hk1)
          have HR1 := Lib.hid hr1
          have BT1 := Lib.hid (but_trans (But.of h0) hb1)
          have hx1 : Box w1 w.heap.size Ws.nil := (hb1.block _ (by simp) (by omega)).trans (blk_new w _)
          clear hr1 hb1
          generalize frS (tl s k1) = f at *
          have HX1 := Lib.hid hx1
          clear hx1
          go_wp2_with fail
          refine KF.out.mono ?_
          rintro e w2 ⟨rfl, hb2⟩
          have hr2 := HR1.out.below hb2
          obtain ⟨c0, c1, c2⟩ := hr2.cells
          obtain ⟨f0, f1, f2⟩ := hr2.frozen
          have hr3 := hr2.go (k1 + 1)
          obtain ⟨g0, g1, g2⟩ := hr3.cells
          have BT3 := Lib.hid ((but_trans BT1.out (But.of hb2)).set 1 (.int .i64 ((k1 + 1 : Nat) : Int)))
          have HX3 := Lib.hid ((HX1.out.below hb2 HX1.out.lt).far (p := ⟨D, 1, none⟩) (show w.heap.size ≠ D from by omega) (.int .i64 ((k1 + 1 : Nat) : Int)))
          have KS2 := Lib.hid (rsign_any hr3 hs (by omega) hv)
          rw [HSG2.out] at KS2
          clear hr2 hr3 hb2
          go_wp2_with fail
          refine KS2.out.mono ?_
          rintro e w4 ⟨hb4, he, hr4⟩
          subst he
          have BT4 := Lib.hid (but_trans BT3.out hb4)
          have HX4 := Lib.hid (show Box w4 w.heap.size Ws.nil from (hb4.block _ HX3.out.lt (by omega)).trans HX3.out)
          rw [hpos3] at hr4
          have HR4 := Lib.hid hr4
          clear hr4 hb4 hless c0 c1 c2 f0 f1 f2 g0 g1 g2
          go_wp2_with fail
          refine (KR.out _).mono ?_
          rintro e w5 ⟨rfl, hb5⟩
          have BT5 := Lib.hid (but_trans BT4.out (But.of hb5))
          have HR5 := Lib.hid (HR4.out.below hb5)
          have hx5 := HX4.out.below hb5 HX4.out.lt
          have hrg : rangeW b b' = rngW b b' := rfl
          rw [hrg]
          clear hb5 hrg
          obtain ⟨⟨c0, c1, c2, c3⟩, f0, f1, f2, f3⟩ := hx5.all
          simp only [Ws.nil] at c0 c1 c2 c3
          generalize rngW b b' = q at *
          obtain ⟨qa, qb, qc, qd⟩ := q
          unfold Ws.v
          go_wp2
          exact ret_box (hx5.put4 _ _ _ _) Tryz.results117 rfl rfl (item_done hpos3 (by omega) BT5.out HR5.out rfl (Nat.le_refl _))
end Go.Proofs.YtfmdcnfniimkoaaGreat
