/- Lemmas of mine, merged: NormG, NormH, NormI, NormJ, NormK. -/
import Derived.Test.YtfmdcnfniimkoaaGreatRexEAll
import Derived.Test.YtfmdcnfniimkoaaGreatAnyOrdTAll
import Derived.Test.YtfmdcnfniimkoaaGreatRdrDAll
import Derived.Test.YtfmdcnfniimkoaaGreatNullHAll
import Derived.Test.YtfmdcnfniimkoaaGreatSetDAll
/- norm's closures that gather: a row in a variable, one expression more. Made by wip/r8-g.py. -/
namespace Go.Proofs.YtfmdcnfniimkoaaGreat
open Go.RowKit
/-- The variable in block o holds a row of one's own of these; X: the blocks of variables; ok: where their rows may lie. -/
def PV (B : Nat) (X ok : Nat → Prop) (o : Nat) (ps : List Ex) (w : World) : Prop := ∃ v xs, w.heap[o]? = some (.cells #[v] 25) ∧ w.ownsRow B 27 6 v ps.length xs ∧ RowVals (fun b => ok b ∧ v.ownBlock ≠ some b) w xs (ps.map Ex.rx) ∧ ∀ x, X x → x < w.heap.size ∧ v.ownBlock ≠ some x
theorem own_lt' {w : World} {B : Nat} {v : Value} {n : Nat} {xs : List Value} (h : w.ownsRow B 27 6 v n xs) : ∀ g, v.ownBlock = some g → B ≤ g ∧ g < w.heap.size := by
  intro g hg
  obtain ⟨_, ⟨rfl, _⟩ | ⟨g', cap, cur, rfl, hB, hh, _⟩⟩ := h
  · simp [Value.ownBlock] at hg
  · simp [Value.ownBlock] at hg
    subst hg
    exact ⟨hB, (Array.getElem?_eq_some_iff.1 hh).1⟩
theorem PV.below {B : Nat} {X ok : Nat → Prop} {o : Nat} {ps : List Ex} {w w' : World} (h : PV B X ok o ps w) (hb : Below w.heap.size w w') : PV B X ok o ps w' := by
  obtain ⟨v, xs, h1, h2, h3, h4⟩ := h
  exact ⟨v, xs, (hb.block _ (Array.getElem?_eq_some_iff.1 h1).1).trans h1, ownR_below h2 hb, h3.go (keptB hb _), fun x hx => ⟨Nat.lt_of_lt_of_le (h4 x hx).1 hb.size, (h4 x hx).2⟩⟩
theorem PV.start {B : Nat} {X ok : Nat → Prop} {o : Nat} {w : World} (h : w.heap[o]? = some (.cells #[.slice none 0 0] 25)) (hX : ∀ x, X x → x < w.heap.size) : PV B X ok o [] w :=
  ⟨_, [], h, ⟨rfl, .inl ⟨rfl, rfl⟩⟩, RowVals.nil _ _, fun x hx => ⟨hX x hx, by simp [Value.ownBlock]⟩⟩
/-- Another variable's store. -/
theorem PV.other {B : Nat} {X ok : Nat → Prop} {o : Nat} {ps : List Ex} {w w' : World} (h : PV B X ok o ps w) (hs : w.heap.size ≤ w'.heap.size) {c : Nat} (hc : X c) (hoc : o ≠ c) (hok : ∀ b, ok b → ¬ X b) (hk : ∀ b, b ≠ c → b < w.heap.size → w'.heap[b]? = w.heap[b]?) : PV B X ok o ps w' := by
  obtain ⟨v, xs, h1, h2, h3, h4⟩ := h
  exact ⟨v, xs, (hk _ hoc (Array.getElem?_eq_some_iff.1 h1).1).trans h1, own_go h2 fun g hg hl => hk g (fun e => (h4 c hc).2 (by rw [hg, e])) hl, h3.go ⟨hs, fun b hl hb => ⟨hb, hk b (fun e => hok b hb.1 (by rw [e]; exact hc)) hl⟩⟩, fun x hx => ⟨Nat.lt_of_lt_of_le (h4 x hx).1 hs, (h4 x hx).2⟩⟩
def PushPost (B : Nat) (X ok : Nat → Prop) (o : Nat) (ps : List Ex) (w : World) (x : Ending) (w' : World) : Prop := x = .returned (.tuple #[]) ∧ PV B X ok o ps w' ∧ Below B w w' ∧ ∀ c, X c → c ≠ o → w'.heap[c]? = w.heap[c]?
theorem var_set {W : World} {g : Nat} {t : TypeId} {v : Value} (h : W.heap[g]? = some (.cells #[v] t)) (y : Value) : (W.setCell ⟨g, 0, none⟩ y).heap[g]? = some (.cells #[y] t) := by
  simp [World.setCell, h, Array.getElem?_modify]
theorem push_facts {B : Nat} {X ok : Nat → Prop} {o : Nat} {ps : List Ex} {w wA w2 W3 : World} {v : Value} {xs : List Value} {e : Ex} {c0 c1 c2 c3 c4 c5 z0 z1 z2 z3 z4 z5 : Value} {g' cap' : Nat} (hX : X o) (hok : ∀ b, ok b → ¬ X b)
    (h3 : RowVals (fun b => ok b ∧ v.ownBlock ≠ some b) w xs (ps.map Ex.rx)) (h4 : ∀ x, X x → x < w.heap.size ∧ v.ownBlock ≠ some x) (hA : Below w.heap.size w wA) (hre : ReAt (fun b => ok b ∧ v.ownBlock ≠ some b) wA (.agg #[c0, c1, c2, c3, c4, c5]) e.rx)
    (how : w2.ownsRow B 27 6 (.slice (some ⟨g', 0, none⟩) (ps.length + 1) cap') (ps.length + 1) (xs ++ [z0, z1, z2, z3, z4, z5])) (hgrow : wA.grownBy w2 v.ownBlock) (hat : v.ownBlock = some g' ∨ g' = wA.heap.size)
    (s1 : w2.heap.size ≤ W3.heap.size) (f : ∀ b, b ≠ g' → b ≠ o → W3.heap[b]? = w2.heap[b]?) (hrow : W3.ownsRow B 27 6 (.slice (some ⟨g', 0, none⟩) (ps.length + 1) cap') (ps.length + 1) (xs ++ [c0, c1, c2, c3, c4, c5])) (hvar : W3.heap[o]? = some (.cells #[.slice (some ⟨g', 0, none⟩) (ps.length + 1) cap'] 25)) :
    PV B X ok o (ps ++ [e]) W3 ∧ ∀ c, X c → c ≠ o → W3.heap[c]? = w.heap[c]? := by
  have hXg : ∀ c, X c → c ≠ g' := fun c hc e => by
    subst e
    rcases hat with h | h
    · exact (h4 c hc).2 h
    · have := (h4 c hc).1; have := hA.size; omega
  have hsz : wA.heap.size ≤ W3.heap.size := Nat.le_trans hgrow.size s1
  have hkept : Kept (fun b => ok b ∧ v.ownBlock ≠ some b) (fun b => ok b ∧ (Value.slice (some ⟨g', 0, none⟩) (ps.length + 1) cap').ownBlock ≠ some b) wA W3 := by
    refine ⟨hsz, fun b hl hb => ?_⟩
    have hbg : b ≠ g' := fun e => by
      rcases hat with h | h
      · exact hb.2 (by rw [h, e])
      · omega
    have hbo : b ≠ o := fun e => hok b hb.1 (by rw [e]; exact hX)
    refine ⟨⟨hb.1, by simp [Value.ownBlock]; exact fun e => hbg e.symm⟩, ?_⟩
    rw [f b hbg hbo]
    exact hgrow.block b hl fun e' => hb.2 e'.symm
  refine ⟨⟨_, _, hvar, by simpa using hrow, ?_, fun x hx => ⟨Nat.lt_of_lt_of_le (h4 x hx).1 (Nat.le_trans hA.size hsz), by simp [Value.ownBlock]; exact fun e => hXg x hx e.symm⟩⟩, fun c hc hco => ?_⟩
  · rw [List.map_append]
    exact ((h3.go (keptB hA _)).go hkept).append ((RowVals.one hre).go hkept)
  · rw [f c (hXg c hc) hco, ← hA.block c (h4 c hc).1]
    exact hgrow.block c (Nat.lt_of_lt_of_le (h4 c hc).1 hA.size) fun e => (h4 c hc).2 e.symm
theorem push_closeA {B : Nat} {X ok : Nat → Prop} {o : Nat} {ps : List Ex} {w wA w2 : World} {v : Value} {xs : List Value} {e : Ex} {c0 c1 c2 c3 c4 c5 z0 z1 z2 z3 z4 z5 : Value} {g' cap' : Nat} (hX : X o) (hok : ∀ b, ok b → ¬ X b) (hBo : B ≤ o) (hBw : B ≤ w.heap.size)
    (hown : w.ownsRow B 27 6 v ps.length xs) (h3 : RowVals (fun b => ok b ∧ v.ownBlock ≠ some b) w xs (ps.map Ex.rx)) (h4 : ∀ x, X x → x < w.heap.size ∧ v.ownBlock ≠ some x) (hA : Below w.heap.size w wA) (hre : ReAt (fun b => ok b ∧ v.ownBlock ≠ some b) wA (.agg #[c0, c1, c2, c3, c4, c5]) e.rx)
    (how : w2.ownsRow B 27 6 (.slice (some ⟨g', 0, none⟩) (ps.length + 1) cap') (ps.length + 1) (xs ++ [z0, z1, z2, z3, z4, z5])) (hgrow : wA.grownBy w2 v.ownBlock) (hat : v.ownBlock = some g' ∨ g' = wA.heap.size) (hvo : w2.heap[o]? = some (.cells #[v] 25)) (hne : ¬ o = g') :
    PushPost B X ok o (ps ++ [e]) w (.returned (.tuple #[])) (((((((w2.setCell ⟨g', ps.length * 6, none⟩ c0).setCell ⟨g', ps.length * 6 + 1, none⟩ c1).setCell ⟨g', ps.length * 6 + 2, none⟩ c2).setCell ⟨g', ps.length * 6 + 3, none⟩ c3).setCell ⟨g', ps.length * 6 + 4, none⟩ c4).setCell ⟨g', ps.length * 6 + 5, none⟩ c5).setCell ⟨o, 0, none⟩ (.slice (some ⟨g', 0, none⟩) (ps.length + 1) cap')) := by
  show PushPost B X ok o (ps ++ [e]) w (.returned (.tuple #[])) ((put6 w2 g' (ps.length * 6) c0 c1 c2 c3 c4 c5).setCell ⟨o, 0, none⟩ (.slice (some ⟨g', 0, none⟩) (ps.length + 1) cap'))
  have hput := own_put6 hown.1 how c0 c1 c2 c3 c4 c5
  have hBg := (own_lt how).1
  have hrow := own_row (w' := (put6 w2 g' (ps.length * 6) c0 c1 c2 c3 c4 c5).setCell ⟨o, 0, none⟩ (.slice (some ⟨g', 0, none⟩) (ps.length + 1) cap')) hput (Below.heap_setCell _ _ _ _ (Ne.symm hne))
  obtain ⟨k1, k2⟩ := push_facts (W3 := (put6 w2 g' (ps.length * 6) c0 c1 c2 c3 c4 c5).setCell ⟨o, 0, none⟩ (.slice (some ⟨g', 0, none⟩) (ps.length + 1) cap')) hX hok h3 h4 hA hre how hgrow hat (by simp [World.setCell, put6_size]) (fun b e1 e2 => by rw [Below.heap_setCell _ _ _ _ e2, put6_other _ _ _ _ _ _ _ _ _ e1]) hrow (var_set ((put6_other w2 g' (ps.length * 6) c0 c1 c2 c3 c4 c5 hne).trans hvo) _)
  refine ⟨rfl, k1, ?_, k2⟩
  exact (put6_below (((Below.refl _ w).trans (hA.mono hBw)).grown hgrow (Nat.le_trans hBw hA.size) (fun g hg => (own_lt' hown g hg).1)) hBg _ _ _ _ _ _ _).setCell (p := ⟨o, 0, none⟩) hBo _
theorem push_closeB {B : Nat} {X ok : Nat → Prop} {o : Nat} {ps : List Ex} {w wA w2 : World} {v : Value} {xs : List Value} {e : Ex} {c0 c1 c2 c3 c4 c5 z0 z1 z2 z3 z4 z5 : Value} {g' cap' : Nat} (hX : X o) (hok : ∀ b, ok b → ¬ X b) (hBo : B ≤ o) (hBw : B ≤ w.heap.size)
    (hown : w.ownsRow B 27 6 v ps.length xs) (h3 : RowVals (fun b => ok b ∧ v.ownBlock ≠ some b) w xs (ps.map Ex.rx)) (h4 : ∀ x, X x → x < w.heap.size ∧ v.ownBlock ≠ some x) (hA : Below w.heap.size w wA) (hre : ReAt (fun b => ok b ∧ v.ownBlock ≠ some b) wA (.agg #[c0, c1, c2, c3, c4, c5]) e.rx)
    (how : w2.ownsRow B 27 6 (.slice (some ⟨g', 0, none⟩) (ps.length + 1) cap') (ps.length + 1) (xs ++ [z0, z1, z2, z3, z4, z5])) (hgrow : wA.grownBy w2 v.ownBlock) (hat : v.ownBlock = some g' ∨ g' = wA.heap.size) (hvo : w2.heap[o]? = some (.cells #[v] 25)) (hne : ¬ o = g') :
    PushPost B X ok o (ps ++ [e]) w (.returned (.tuple #[])) (((((((w2.setCell ⟨o, 0, none⟩ (.slice (some ⟨g', 0, none⟩) (ps.length + 1) cap')).setCell ⟨g', ps.length * 6, none⟩ c0).setCell ⟨g', ps.length * 6 + 1, none⟩ c1).setCell ⟨g', ps.length * 6 + 2, none⟩ c2).setCell ⟨g', ps.length * 6 + 3, none⟩ c3).setCell ⟨g', ps.length * 6 + 4, none⟩ c4).setCell ⟨g', ps.length * 6 + 5, none⟩ c5) := by
  show PushPost B X ok o (ps ++ [e]) w (.returned (.tuple #[])) (put6 (w2.setCell ⟨o, 0, none⟩ (.slice (some ⟨g', 0, none⟩) (ps.length + 1) cap')) g' (ps.length * 6) c0 c1 c2 c3 c4 c5)
  have hBg := (own_lt how).1
  have hrow := own_put6 hown.1 (own_row (w' := w2.setCell ⟨o, 0, none⟩ (.slice (some ⟨g', 0, none⟩) (ps.length + 1) cap')) how (Below.heap_setCell _ _ _ _ (Ne.symm hne))) c0 c1 c2 c3 c4 c5
  obtain ⟨k1, k2⟩ := push_facts (W3 := put6 (w2.setCell ⟨o, 0, none⟩ (.slice (some ⟨g', 0, none⟩) (ps.length + 1) cap')) g' (ps.length * 6) c0 c1 c2 c3 c4 c5) hX hok h3 h4 hA hre how hgrow hat (by rw [put6_size]; simp [World.setCell]) (fun b e1 e2 => by rw [put6_other _ _ _ _ _ _ _ _ _ e1, Below.heap_setCell _ _ _ _ e2]) hrow ((put6_other _ g' (ps.length * 6) c0 c1 c2 c3 c4 c5 hne).trans (var_set hvo _))
  refine ⟨rfl, k1, ?_, k2⟩
  exact put6_below ((((Below.refl _ w).trans (hA.mono hBw)).grown hgrow (Nat.le_trans hBw hA.size) (fun g hg => (own_lt' hown g hg).1)).setCell (p := ⟨o, 0, none⟩) hBo _) hBg _ _ _ _ _ _ _
/-- A row of one zero expression, as append's argument. -/
def SP.zero : SP := ⟨fun x w => ∃ g, x = .slice (some ⟨g, 0, none⟩) 1 1 ∧ w.heap[g]? = some zR, fun _ _ _ ⟨g, h1, h2⟩ hb => ⟨g, h1, (hb.block _ (Array.getElem?_eq_some_iff.1 h2).1).trans h2⟩⟩
theorem zero_at {w : World} {g : Nat} (h : w.heap[g]? = some zR) : ∀ j u, ([.int .u8 0, .int .u64 0, .int .u64 0, .int .u64 0, .int .u64 0, .slice none 0 0] : List Value)[j]? = some u → w.cell? ((⟨g, 0, none⟩ : Addr).add j) = some u := by
  intro j u hj
  rw [Go.WideShapes.add_plain]
  show w.cell? ⟨g, 0 + j, none⟩ = some u
  rw [Nat.zero_add, Lib.cell_of_heap h]
  simpa using hj
theorem var_cell {w : World} {o : Nat} {v : Value} (h : w.heap[o]? = some (.cells #[v] 25)) : w.cell? ⟨o, 0, none⟩ = some v ∧ w.frozen? ⟨o, 0, none⟩ = false := by
  refine ⟨by rw [Lib.cell_of_heap h]; rfl, Lib.frozen_of_heap h 0⟩
/-- Newer than B, and no variable. -/
def okV (B : Nat) (X : Nat → Prop) (b : Nat) : Prop := B ≤ b ∧ ¬ X b
theorem ends_same {P : Nat → Prop} {n m : Nat} (h : ∀ b, n ≤ b → P b) (hm : n ≤ m) : ∀ b, m ≤ b → P b := fun b hb => h b (Nat.le_trans hm hb)
set_option maxHeartbeats 8000000 in
set_option maxRecDepth 100000 in
theorem normals1_any {B : Nat} {X : Nat → Prop} {o : Nat} {done : List Ex} {e : Ex} {v0 : Value} {w : World} (hX : X o) (hBo : B ≤ o) (hBw : B ≤ w.heap.size) (hlen : done.length < 1000000) (hP : PV B X (okV B X) o (done.map nfE) w) (hre : ReAt (Lo B) w v0 e.rx)
    (hN : ∀ (W : World), Below w.heap.size w W → Calls Tryz.prog 34 #[v0] W (NewPost (nfE e).rx W)) :
    Calls Tryz.prog 72 #[v0, .pointer (some ⟨o, 0, none⟩)] w (PushPost B X (okV B X) o ((done ++ [e]).map nfE) w) := by
  obtain ⟨y0, y1, y2, y3, y4, yl, yn, yc, rfl⟩ := cells_re hre
  rw [List.map_append, show [e].map nfE = [nfE e] from rfl]
  have hlen' : (done.map nfE).length < 1000000 := by rw [List.length_map]; exact hlen
  generalize done.map nfE = ps at *
  obtain ⟨v, xs, h1, hown, h3, h4⟩ := hP
  obtain ⟨al, vc, rfl⟩ : ∃ al c, v = .slice al ps.length c := own_form hown
  obtain ⟨i0, z0, hi0, hz0, hz1, hz2, hz3⟩ := infoR2
  have hz2' := Lib.hid hz2
  have HX : X o := hX
  have HOK := Lib.hid (show ∀ b, okV B X b → ¬ X b from fun b h => h.2)
  have HOWN := Lib.hid hown
  have H3 := Lib.hid h3
  have H4 := Lib.hid h4
  have BX := Lib.hid (show (w.alloc (.cells #[.int .u8 y0, .int .u64 y1, .int .u64 y2, .int .u64 y3, .int .u64 y4, .slice yl yn yc] 27)).heap[w.heap.size]? = some (.cells #[.int .u8 y0, .int .u64 y1, .int .u64 y2, .int .u64 y3, .int .u64 y4, .slice yl yn yc] 27) ∧ Below w.heap.size w (w.alloc (.cells #[.int .u8 y0, .int .u64 y1, .int .u64 y2, .int .u64 y3, .int .u64 y4, .slice yl yn yc] 27)) from ⟨blk_new w _, (Below.refl _ w).alloc (Nat.le_refl _) _⟩)
  have KN0 := Lib.hid hN
  have V0 := Lib.hid h1
  clear hz2 hX hown h3 h4 hN hre h1 hlen done
  go_enter Tryz.func72, Tryz.ntmps72
  go_wp2_with fail
  obtain ⟨W, hW⟩ : ∃ x, x = w.alloc (.cells #[.int .u8 y0, .int .u64 y1, .int .u64 y2, .int .u64 y3, .int .u64 y4, .slice yl yn yc] 27) := ⟨_, rfl⟩
  rw [← hW] at BX ⊢
  clear hW
  have WB := Lib.hid fun x (hx : Below W.heap.size W x) => BX.out.2.trans (hx.mono BX.out.2.size)
  have VO := Lib.hid fun x (hx : Below W.heap.size W x) => ((WB.out x hx).block o (H4.out o HX).1).trans V0.out
  have CB := Lib.hid fun x (hx : Below W.heap.size W x) => cellsR ((hx.block _ (Array.getElem?_eq_some_iff.1 BX.out.1).1).trans BX.out.1)
  have KN := Lib.hid fun x (hx : Below W.heap.size W x) => KN0.out x (WB.out x hx)
  have HI := Lib.hid fun x (hx : Below W.heap.size W x) b (h : New x.heap.size b) => show okV B X b ∧ (Value.slice al ps.length vc).ownBlock ≠ some b from by
    have hs := (WB.out x hx).size
    have hsb : x.heap.size ≤ b := h
    refine ⟨⟨by omega, fun hb => ?_⟩, fun hb => ?_⟩
    · have := (H4.out b hb).1; omega
    · have := (own_lt' HOWN.out b hb).2; omega
  refine wp_region_orderA 5 (fun i => ([SP.eq (.slice al ps.length vc), SP.eq (.agg #[.int .u8 y0, .int .u64 y1, .int .u64 y2, .int .u64 y3, .int .u64 y4, .slice yl yn yc]), SP.ex (fun b => okV B X b ∧ (Value.slice al ps.length vc).ownBlock ≠ some b) (nfE e), SP.eq (.int .i64 ps.length), SP.zero] : List SP).getD i SP.free) (fun _ => false) (fun _ _ _ h => by cases h) (by kernel_rfl) (by kernel_rfl) ⟨?_, ?_, ?_, ?_, ?_, trivial⟩ ?_
  · intro a x K out get hb hK
    rw [if_pos (wanted_none rfl)]
    have o1 : a.tmps[1]? = some (.pointer (some ⟨o, 0, none⟩)) := out 1 (by kernel_rfl)
    obtain ⟨c0, -⟩ := var_cell (VO.out x hb)
    clear out get
    go_simp
    exact hK _ _ rfl (Below.refl _ _) (fun h => by cases h)
  · intro a x K out get hb hK
    rw [if_pos (wanted_none rfl)]
    have o2 : a.tmps[2]? = some (.pointer (some ⟨w.heap.size, 0, none⟩)) := out 2 (by kernel_rfl)
    obtain ⟨c0, c1, c2, c3, c4, c5, -⟩ := CB.out x hb
    clear out get
    go_simp
    exact hK _ _ rfl (Below.refl _ _) (fun h => by cases h)
  · intro a x K out get hb hK
    rw [if_pos (wanted_none rfl)]
    obtain ⟨y4, hy4, rfl⟩ := get 1 _ _ rfl rfl (by kernel_rfl)
    clear out get
    go_simp
    refine (KN.out x hb).mono ?_
    rintro e w2 ⟨v2, rfl, hv2, hb2⟩
    exact hK _ _ (ExV.of hv2 fun b _ h => HI.out x hb b h) hb2 (fun h => by cases h)
  · intro a x K out get hb hK
    rw [if_pos (wanted_none rfl)]
    obtain ⟨y3, hy3, rfl⟩ := get 0 _ _ rfl rfl (by kernel_rfl)
    clear out get
    go_simp
    exact hK _ _ rfl (Below.refl _ _) (fun h => by cases h)
  · intro a x K out get hb hK
    rw [if_pos (wanted_none rfl)]
    clear out get
    go_simp
    exact hK _ _ ⟨_, rfl, blk_new _ _⟩ (bel_al _ _) (fun h => by cases h)
  refine ao_finA (isD := fun s => decide (3 ≤ s) && decide (s ≤ 9)) (by kernel_rfl) ?_
  intro f x hv hne hb
  clear hne
  have e3 : f 3 = _ := hv 0 _ _ (by decide) rfl rfl
  have e6 : f 6 = _ := hv 3 _ _ (by decide) rfl rfl
  obtain ⟨p0, p1, p2, p3, p4, pl, pn, pc, e5, he⟩ := hv 2 _ _ (by decide) rfl rfl
  obtain ⟨gz, e7, hz⟩ := hv 4 _ _ (by decide) rfl rfl
  have hbx := WB.out x hb
  have hox := VO.out x hb
  have HE := Lib.hid he
  have hownx := ownR_below HOWN.out hbx
  have hBx := Nat.le_trans hBw hbx.size
  clear hv he
  generalize hF : (Act.mk (List.toArray (frm f _ 0 _)) _) = fr
  simp [frm] at hF
  rw [e3, e6, e5, e7] at hF
  subst hF
  generalize f 4 = u4 at *
  generalize f 8 = u8 at *
  generalize f 9 = u9 at *
  clear e3 e6 e5 e7 f
  refine wp_end (n := 5) (by kernel_rfl) rfl rfl rfl rfl ?_
  refine step_append_lies _ rfl (.tmp 3) (.tmp 7) 25 rfl B 27 i0 z0 6 64 Tryz.underlying25 hi0 hz0 hz1 hz2'.out hz3 (by decide) (.slice al ps.length vc) ps.length xs rfl hownx ⟨gz, 0, none⟩ 1 1 [.int .u8 0, .int .u64 0, .int .u64 0, .int .u64 0, .int .u64 0, .slice none 0 0] rfl rfl (zero_at hz) zero6_one (by decide) (by unfold maxLen; omega) (by omega) hBx _ rfl ?_
  intro g' cap' w2 hown hgrow hat hlt
  obtain ⟨⟨n0, n1, n2, n3, n4, n5⟩, m0, m1, m2, m3, m4, m5⟩ := new6 HOWN.out.1 hown
  have hne : ¬ o = g' := fun e => by
    rcases hat with h | h
    · exact (H4.out o HX).2 (by rw [h, e])
    · have := (H4.out o HX).1; have := hbx.size; omega
  have hne' : ¬ g' = o := fun e => hne e.symm
  have hvo := (hgrow.block o (Nat.lt_of_lt_of_le (H4.out o HX).1 hbx.size) fun e => (H4.out o HX).2 e.symm).trans hox
  obtain ⟨v0c, v0f⟩ := var_cell hvo
  have hidx : (ps.length : Int) < (ps.length : Int) + 1 := by omega
  have HOW := Lib.hid hown
  have HGR := Lib.hid hgrow
  have HAT := Lib.hid hat
  have HBX := Lib.hid hbx
  have HVO := Lib.hid hvo
  clear hown hgrow hat hbx hvo hox hz hownx hBx hb
  refine ⟨?_, ?_⟩
  · rw [if_pos (wanted_none rfl)]
    go_simp
    refine ⟨?_, ?_⟩
    · go_wp2
      go_end0
      with_reducible exact push_closeA HX HOK.out hBo hBw HOWN.out H3.out H4.out HBX.out HE.out HOW.out HGR.out HAT.out HVO.out hne
    · go_wp2
      go_end0
      with_reducible exact push_closeB HX HOK.out hBo hBw HOWN.out H3.out H4.out HBX.out HE.out HOW.out HGR.out HAT.out HVO.out hne
  · go_wp2
    go_end0
    with_reducible exact push_closeB HX HOK.out hBo hBw HOWN.out H3.out H4.out HBX.out HE.out HOW.out HGR.out HAT.out HVO.out hne
end Go.Proofs.YtfmdcnfniimkoaaGreat
/- norm.normals. -/
namespace Go.Proofs.YtfmdcnfniimkoaaGreat
open Go.RowKit
def NrmC (N : Nat) : Prop := ∀ e : Ex, e.size ≤ N → e.Wf → ∀ (ok : Nat → Prop) (v : Value) (w : World), ReAt ok w v e.rx → Calls Tryz.prog 34 #[v] w (NewPost (nfE e).rx w)
/-- A row that a call has made. -/
def NmPost (l : List Ex) (w : World) (x : Ending) (w' : World) : Prop := ∃ al cap, x = .returned (.slice al l.length cap) ∧ l.length ≤ cap ∧ RowAt (New w.heap.size) w' al (l.map Ex.rx) ∧ Below w.heap.size w w'
theorem PV.out {B : Nat} {X ok : Nat → Prop} {o : Nat} {ps : List Ex} {w : World} (h : PV B X ok o ps w) : ∃ al cap, w.heap[o]? = some (.cells #[.slice al ps.length cap] 25) ∧ ps.length ≤ cap ∧ RowAt (fun b => ok b ∨ B ≤ b) w al (ps.map Ex.rx) := by
  obtain ⟨v, xs, h1, h2, h3, h4⟩ := h
  obtain ⟨al, cap, rfl, e2, e3⟩ := row_of_own (l := ps.map Ex.rx) (by rw [List.length_map]; exact h2) h3
  rw [List.length_map] at h1 e2
  refine ⟨al, cap, h1, e2, e3.imp fun b _ h => ?_⟩
  rcases h with h | h
  · exact .inl h.1
  · exact .inr h
set_option maxRecDepth 100000 in
set_option maxHeartbeats 8000000 in
theorem normals_any {N k : Nat} (ih : NrmC N) (hk : k = 4 ∨ k = 5) (ok : Nat → Prop) (l : List Ex) (al : Option Addr) (cap : Nat) (w : World) (hl : ∀ e ∈ l, e.size ≤ N ∧ e.Wf) (hlen : l.length < 2199023255552) (hM : (partL k l).length ≤ 1000000) (hR : RowAt ok w al (l.map Ex.rx)) :
    Calls Tryz.prog 43 #[.int .u8 k, .slice al l.length cap] w (NmPost ((partL k l).map nfE) w) := by
  have hR0 : RowAt (Lo w.heap.size) w al (l.map Ex.rx) := hR.imp fun b hb _ => hb
  obtain ⟨W1, hW1⟩ : ∃ x, x = w.alloc (.cells #[.slice none 0 0] 25) := ⟨_, rfl⟩
  have hb1 : Below w.heap.size w W1 := by rw [hW1]; exact (Below.refl _ w).alloc (Nat.le_refl _) _
  have hR1 := hR0.below hb1
  have ho : W1.heap[w.heap.size]? = some (.cells #[.slice none 0 0] 25) := by rw [hW1]; exact blk_new w _
  have hlt : w.heap.size < W1.heap.size := (Array.getElem?_eq_some_iff.1 ho).1
  have hT : Tell 1000000 w.heap.size W1 72 #[.pointer (some ⟨w.heap.size, 0, none⟩)] (fun done W => PV w.heap.size (fun b => b = w.heap.size) (okV w.heap.size (fun b => b = w.heap.size)) w.heap.size (done.map nfE) W) (fun e => e.size ≤ N ∧ e.Wf) := by
    refine ⟨fun v W => rfl, fun done W W' h hb => h.below hb, fun done e v W hd hI hB he hre => ?_⟩
    have hsz : w.heap.size ≤ W.heap.size := Nat.le_trans (Nat.le_of_lt hlt) hB.size
    exact (normals1_any (X := fun b => b = w.heap.size) rfl (Nat.le_refl _) hsz hd hI hre fun W' hb => ih e he.1 he.2 _ v W' (hre.below hb)).mono fun x W' h => ⟨h.1, h.2.1, h.2.2.1⟩
  have K0 := each_any hk (Nat.le_of_lt hlt) hT (Ex.sum l) l al cap [] W1 (Nat.le_refl _) hlen hR1 (fun x hx => by
    obtain ⟨e, he, hx⟩ := List.mem_flatMap.1 hx
    exact ⟨Nat.le_trans (part_mem_size k e x hx) (hl e he).1, part_mem_wf k e x (hl e he).2 hx⟩) (by simpa using hM) (PV.start ho fun x hx => by rw [hx]; exact hlt) (Below.refl _ _)
  simp only [List.nil_append] at K0
  generalize (partL k l).map nfE = ps at K0 ⊢
  have K := Lib.hid K0
  have HB1 := Lib.hid hb1
  have HW1 := Lib.hid hW1
  clear hR hR0 hR1 hT ih hl hb1 ho hW1 K0
  go_enter Tryz.func43, Tryz.ntmps43
  go_wp2_with fail
  rw [← HW1.out]
  refine K.out.mono ?_
  rintro x w2 ⟨rfl, hI, hb2⟩
  obtain ⟨al2, cap2, hv, hc, hr⟩ := hI.out
  have HR := Lib.hid (show RowAt (New w.heap.size) w2 al2 (ps.map Ex.rx) from hr.imp fun b _ h => h.elim (fun h => h.1) id)
  have HC := Lib.hid hc
  have HB2 := Lib.hid (HB1.out.trans hb2)
  obtain ⟨c0, -⟩ := var_cell hv
  clear hI hv hc hr hb2 K
  go_wp2
  go_ret
  exact ⟨al2, cap2, rfl, HC.out, HR.out, HB2.out⟩
end Go.Proofs.YtfmdcnfniimkoaaGreat
/- norm.seq's closure. Made by wip/r8-g.py. -/
namespace Go.Proofs.YtfmdcnfniimkoaaGreat
open Go.RowKit
def seqKeep (x : Ex) : Bool := !x.isEmp && !x.isEps
/-- What seq's two variables hold. -/
def SeqI (B : Nat) (X : Nat → Prop) (o c : Nat) (done : List Ex) (w : World) : Prop := PV B X (Lo B) o (done.filter seqKeep) w ∧ w.heap[c]? = some (.cells #[.bool (done.any Ex.isEmp)] 4)
theorem var_cellT {w : World} {o : Nat} {v : Value} {t : TypeId} (h : w.heap[o]? = some (.cells #[v] t)) : w.cell? ⟨o, 0, none⟩ = some v ∧ w.frozen? ⟨o, 0, none⟩ = false := by
  refine ⟨by rw [Lib.cell_of_heap h]; rfl, Lib.frozen_of_heap h 0⟩
set_option maxHeartbeats 8000000 in
set_option maxRecDepth 100000 in
theorem seq1_any {B : Nat} {X : Nat → Prop} {o c : Nat} {done : List Ex} {e : Ex} {v0 : Value} {w : World} (hX : X o) (hXc : X c) (hoc : o ≠ c) (hXB : ∀ x, X x → B ≤ x) (hBw : B ≤ w.heap.size) (hlen : done.length < 1000000) (hI : SeqI B X o c done w) (hre : ReAt (Lo B) w v0 e.rx) :
    Calls Tryz.prog 70 #[v0, .pointer (some ⟨c, 0, none⟩), .pointer (some ⟨o, 0, none⟩)] w (fun x w' => x = .returned (.tuple #[]) ∧ SeqI B X o c (done ++ [e]) w' ∧ Below B w w') := by
  obtain ⟨ka, ⟨sa, sb, sc, sd⟩, ksa, hsa⟩ := rx_form e
  have hre0 := hre
  rw [hsa] at hre
  obtain ⟨_, _, al1, cap1, rfl, _, _, _⟩ := hre
  simp only at hre0 ⊢
  have hre := hre0
  clear hre0
  have k1a := kind_emp hsa
  have k2a := kind_eps hsa
  have HOK := Lib.hid (show ∀ b, Lo B b → ¬ X b from fun b h hb => by have := hXB b hb; have : b < B := h; omega)
  obtain ⟨hP, hV⟩ := hI
  have hBo := hXB o hX
  have hBc := hXB c hXc
  have hpl : (done.filter seqKeep).length < 1000000 := Nat.lt_of_le_of_lt (List.length_filter_le _ _) hlen
  have hcl : c < w.heap.size := (Array.getElem?_eq_some_iff.1 hV).1
  cases q1 : e.isEmp with
  | true =>
    rw [q1] at k1a
    have hany : (done ++ [e]).any Ex.isEmp = true := by simp [q1]
    have hfil : (done ++ [e]).filter seqKeep = done.filter seqKeep := by simp [seqKeep, q1]
    have hb0 : Below w.heap.size w (w.alloc (.cells #[.int .u8 ka, .int .u64 sa, .int .u64 sb, .int .u64 sc, .int .u64 sd, .slice al1 ksa.length cap1] 27)) := (Below.refl _ w).alloc (Nat.le_refl _) _
    have hV1 := (hb0.block c hcl).trans hV
    have hP1 := hP.below hb0
    have hset := var_set hV1 (.bool true)
    have hP2 := hP1.other (w' := (w.alloc (.cells #[.int .u8 ka, .int .u64 sa, .int .u64 sb, .int .u64 sc, .int .u64 sd, .slice al1 ksa.length cap1] 27)).setCell ⟨c, 0, none⟩ (.bool true)) (by simp [World.setCell]) hXc hoc HOK.out fun b hb _ => Below.heap_setCell _ _ _ _ hb
    have hB2 := (hb0.mono hBw).setCell (p := ⟨c, 0, none⟩) hBc (.bool true)
    have H := Lib.hid (show SeqI B X o c (done ++ [e]) ((w.alloc (.cells #[.int .u8 ka, .int .u64 sa, .int .u64 sb, .int .u64 sc, .int .u64 sd, .slice al1 ksa.length cap1] 27)).setCell ⟨c, 0, none⟩ (.bool true)) ∧ Below B w ((w.alloc (.cells #[.int .u8 ka, .int .u64 sa, .int .u64 sb, .int .u64 sc, .int .u64 sd, .slice al1 ksa.length cap1] 27)).setCell ⟨c, 0, none⟩ (.bool true)) from ⟨⟨by rw [hfil]; exact hP2, by rw [hany]; exact hset⟩, hB2⟩)
    obtain ⟨vc0, vf0⟩ := var_cellT hV
    clear hP hV hP1 hP2 hV1 hset hB2 hb0 hre hsa k2a hany hfil
    go_enter Tryz.func70, Tryz.ntmps70
    go_wp2
    go_end0
    first
      | exact ⟨rfl, H.out.1, H.out.2⟩
      | (rw [← World.setCell_alloc_past]; (exact ⟨rfl, H.out.1, H.out.2⟩); exact hcl)
  | false =>
  rw [q1] at k1a
  cases q2 : e.isEps with
  | true =>
    rw [q2] at k2a
    have hany : (done ++ [e]).any Ex.isEmp = done.any Ex.isEmp := by simp [q1]
    have hfil : (done ++ [e]).filter seqKeep = done.filter seqKeep := by simp [seqKeep, q2]
    have hb0 : Below w.heap.size w (w.alloc (.cells #[.int .u8 ka, .int .u64 sa, .int .u64 sb, .int .u64 sc, .int .u64 sd, .slice al1 ksa.length cap1] 27)) := (Below.refl _ w).alloc (Nat.le_refl _) _
    have H := Lib.hid (show SeqI B X o c (done ++ [e]) (w.alloc (.cells #[.int .u8 ka, .int .u64 sa, .int .u64 sb, .int .u64 sc, .int .u64 sd, .slice al1 ksa.length cap1] 27)) ∧ Below B w (w.alloc (.cells #[.int .u8 ka, .int .u64 sa, .int .u64 sb, .int .u64 sc, .int .u64 sd, .slice al1 ksa.length cap1] 27)) from ⟨⟨by rw [hfil]; exact hP.below hb0, by rw [hany]; exact (hb0.block c hcl).trans hV⟩, hb0.mono hBw⟩)
    clear hP hV hb0 hre hsa hany hfil
    go_enter Tryz.func70, Tryz.ntmps70
    go_wp2
    go_end0
    exact ⟨rfl, H.out.1, H.out.2⟩
  | false =>
  rw [q2] at k2a
  have hany : (done ++ [e]).any Ex.isEmp = done.any Ex.isEmp := by simp [q1]
  have hfil : (done ++ [e]).filter seqKeep = done.filter seqKeep ++ [e] := by simp [seqKeep, q1, q2]
  have SE := Lib.hid (show ∀ x w', PushPost B X (Lo B) o (done.filter seqKeep ++ [e]) w x w' → x = .returned (.tuple #[]) ∧ SeqI B X o c (done ++ [e]) w' ∧ Below B w w' from fun x w' h => ⟨h.1, ⟨by rw [hfil]; exact h.2.1, by rw [hany, h.2.2.2 c hXc (Ne.symm hoc)]; exact hV⟩, h.2.2.1⟩)
  clear hany hfil hV hXc hoc hXB hBc hcl hlen hsa
  generalize done.filter seqKeep = ps at *
  obtain ⟨v, xs, h1, hown, h3, h4⟩ := hP
  obtain ⟨al, vc, rfl⟩ : ∃ al c, v = .slice al ps.length c := own_form hown
  obtain ⟨i0, z0, hi0, hz0, hz1, hz2, hz3⟩ := infoR2
  have hz2' := Lib.hid hz2
  have HX : X o := hX
  have HOWN := Lib.hid hown
  have H3 := Lib.hid h3
  have H4 := Lib.hid h4
  have HRE := Lib.hid (show ReAt (fun b => Lo B b ∧ (Value.slice al ps.length vc).ownBlock ≠ some b) w (.agg #[.int .u8 ka, .int .u64 sa, .int .u64 sb, .int .u64 sc, .int .u64 sd, .slice al1 ksa.length cap1]) e.rx from hre.imp fun b _ h => ⟨h, fun hb => by have := (own_lt' hown b hb).1; have : b < B := h; omega⟩)
  have BX := Lib.hid (show (w.alloc (.cells #[.int .u8 ka, .int .u64 sa, .int .u64 sb, .int .u64 sc, .int .u64 sd, .slice al1 ksa.length cap1] 27)).heap[w.heap.size]? = some (.cells #[.int .u8 ka, .int .u64 sa, .int .u64 sb, .int .u64 sc, .int .u64 sd, .slice al1 ksa.length cap1] 27) ∧ Below w.heap.size w (w.alloc (.cells #[.int .u8 ka, .int .u64 sa, .int .u64 sb, .int .u64 sc, .int .u64 sd, .slice al1 ksa.length cap1] 27)) from ⟨blk_new w _, (Below.refl _ w).alloc (Nat.le_refl _) _⟩)
  have V0 := Lib.hid h1
  clear hz2 hX hown h3 h4 hre h1
  have q1s : ((ka : Int) == 1) = false := k1a
  have q2s : ((ka : Int) == 2) = false := k2a
  go_enter Tryz.func70, Tryz.ntmps70
  go_wp2_with fail
  obtain ⟨W, hW⟩ : ∃ x, x = w.alloc (.cells #[.int .u8 ka, .int .u64 sa, .int .u64 sb, .int .u64 sc, .int .u64 sd, .slice al1 ksa.length cap1] 27) := ⟨_, rfl⟩
  rw [← hW] at BX ⊢
  clear hW
  have WB := Lib.hid fun x (hx : Below W.heap.size W x) => BX.out.2.trans (hx.mono BX.out.2.size)
  have VO := Lib.hid fun x (hx : Below W.heap.size W x) => ((WB.out x hx).block o (H4.out o HX).1).trans V0.out
  have CB := Lib.hid fun x (hx : Below W.heap.size W x) => cellsR ((hx.block _ (Array.getElem?_eq_some_iff.1 BX.out.1).1).trans BX.out.1)
  refine wp_region_orderA 4 (fun i => ([SP.eq (.slice al ps.length vc), SP.eq (.agg #[.int .u8 ka, .int .u64 sa, .int .u64 sb, .int .u64 sc, .int .u64 sd, .slice al1 ksa.length cap1]), SP.eq (.int .i64 ps.length), SP.zero] : List SP).getD i SP.free) (fun _ => false) (fun _ _ _ h => by cases h) (by kernel_rfl) (by kernel_rfl) ⟨?_, ?_, ?_, ?_, trivial⟩ ?_
  · intro a x K out get hb hK
    rw [if_pos (wanted_none rfl)]
    have o2 : a.tmps[2]? = some (.pointer (some ⟨o, 0, none⟩)) := out 2 (by kernel_rfl)
    obtain ⟨c0, -⟩ := var_cell (VO.out x hb)
    clear out get
    go_simp
    exact hK _ _ rfl (Below.refl _ _) (fun h => by cases h)
  · intro a x K out get hb hK
    rw [if_pos (wanted_none rfl)]
    have o3 : a.tmps[3]? = some (.pointer (some ⟨w.heap.size, 0, none⟩)) := out 3 (by kernel_rfl)
    obtain ⟨c0, c1, c2, c3, c4, c5, -⟩ := CB.out x hb
    clear out get
    go_simp
    exact hK _ _ rfl (Below.refl _ _) (fun h => by cases h)
  · intro a x K out get hb hK
    rw [if_pos (wanted_none rfl)]
    obtain ⟨y6, hy6, rfl⟩ := get 0 _ _ rfl rfl (by kernel_rfl)
    clear out get
    go_simp
    exact hK _ _ rfl (Below.refl _ _) (fun h => by cases h)
  · intro a x K out get hb hK
    rw [if_pos (wanted_none rfl)]
    clear out get
    go_simp
    exact hK _ _ ⟨_, rfl, blk_new _ _⟩ (bel_al _ _) (fun h => by cases h)
  refine ao_finA (isD := fun s => decide (6 ≤ s) && decide (s ≤ 11)) (by kernel_rfl) ?_
  intro f x hv hne hb
  clear hne
  have e6 : f 6 = _ := hv 0 _ _ (by decide) rfl rfl
  have e8 : f 8 = _ := hv 2 _ _ (by decide) rfl rfl
  have e7 : f 7 = _ := hv 1 _ _ (by decide) rfl rfl
  have he := HRE.out.below (WB.out x hb)
  obtain ⟨gz, e9, hz⟩ := hv 3 _ _ (by decide) rfl rfl
  have hbx := WB.out x hb
  have hox := VO.out x hb
  have HE := Lib.hid he
  have hownx := ownR_below HOWN.out hbx
  have hBx := Nat.le_trans hBw hbx.size
  clear hv he
  generalize hF : (Act.mk (List.toArray (frm f _ 0 _)) _) = fr
  simp [frm] at hF
  rw [e6, e8, e7, e9] at hF
  subst hF
  generalize f 10 = u10 at *
  generalize f 11 = u11 at *
  clear e6 e8 e7 e9 f
  refine wp_end (n := 4) (by kernel_rfl) rfl rfl rfl rfl ?_
  refine step_append_lies _ rfl (.tmp 6) (.tmp 9) 25 rfl B 27 i0 z0 6 64 Tryz.underlying25 hi0 hz0 hz1 hz2'.out hz3 (by decide) (.slice al ps.length vc) ps.length xs rfl hownx ⟨gz, 0, none⟩ 1 1 [.int .u8 0, .int .u64 0, .int .u64 0, .int .u64 0, .int .u64 0, .slice none 0 0] rfl rfl (zero_at hz) zero6_one (by decide) (by unfold maxLen; omega) (by omega) hBx _ rfl ?_
  intro g' cap' w2 hown hgrow hat hlt
  obtain ⟨⟨n0, n1, n2, n3, n4, n5⟩, m0, m1, m2, m3, m4, m5⟩ := new6 HOWN.out.1 hown
  have hne : ¬ o = g' := fun e => by
    rcases hat with h | h
    · exact (H4.out o HX).2 (by rw [h, e])
    · have := (H4.out o HX).1; have := hbx.size; omega
  have hne' : ¬ g' = o := fun e => hne e.symm
  have hvo := (hgrow.block o (Nat.lt_of_lt_of_le (H4.out o HX).1 hbx.size) fun e => (H4.out o HX).2 e.symm).trans hox
  obtain ⟨v0c, v0f⟩ := var_cell hvo
  have hidx : (ps.length : Int) < (ps.length : Int) + 1 := by omega
  have HOW := Lib.hid hown
  have HGR := Lib.hid hgrow
  have HAT := Lib.hid hat
  have HBX := Lib.hid hbx
  have HVO := Lib.hid hvo
  clear hown hgrow hat hbx hvo hox hz hownx hBx hb
  refine ⟨?_, ?_⟩
  · rw [if_pos (wanted_none rfl)]
    go_simp
    refine ⟨?_, ?_⟩
    · go_wp2
      go_end0
      with_reducible exact SE.out _ _ (push_closeA HX HOK.out hBo hBw HOWN.out H3.out H4.out HBX.out HE.out HOW.out HGR.out HAT.out HVO.out hne)
    · go_wp2
      go_end0
      with_reducible exact SE.out _ _ (push_closeB HX HOK.out hBo hBw HOWN.out H3.out H4.out HBX.out HE.out HOW.out HGR.out HAT.out HVO.out hne)
  · go_wp2
    go_end0
    with_reducible exact SE.out _ _ (push_closeB HX HOK.out hBo hBw HOWN.out H3.out H4.out HBX.out HE.out HOW.out HGR.out HAT.out HVO.out hne)
end Go.Proofs.YtfmdcnfniimkoaaGreat
/- norm.alt's closure. Made by wip/r8-g.py. -/
namespace Go.Proofs.YtfmdcnfniimkoaaGreat
open Go.RowKit
/-- What alt's two variables hold. -/
def AltI (B : Nat) (X : Nat → Prop) (o c : Nat) (done : List Ex) (w : World) : Prop := PV B X (Lo B) o (bareL done) w ∧ Box w c (setE done) ∧ (setE done).Ok
theorem sets_two {W : World} {g sa sb sc sd ta tb tc td : Nat} (h : W.heap[g]? = some (.cells #[.int .u64 sa, .int .u64 sb, .int .u64 sc, .int .u64 sd, .int .u64 ta, .int .u64 tb, .int .u64 tc, .int .u64 td] 24)) (hs : (⟨sa, sb, sc, sd⟩ : Ws).Ok) (ht : (⟨ta, tb, tc, td⟩ : Ws).Ok) : SetsAt W (some ⟨g, 0, none⟩) [⟨sa, sb, sc, sd⟩, ⟨ta, tb, tc, td⟩] := by
  refine ⟨by unfold maxLen; simp, fun s hs' => ?_, .inr ⟨g, 0, rfl, (Array.getElem?_eq_some_iff.1 h).1, fun i hi => ?_⟩⟩
  · simp at hs'
    rcases hs' with rfl | rfl
    · exact hs
    · exact ht
  · have hi2 : i < 2 := hi
    rcases (show i = 0 ∨ i = 1 by omega) with rfl | rfl
    · refine ⟨?_, ?_, ?_, ?_⟩ <;> (rw [Lib.cell_of_heap h]; rfl)
    · refine ⟨?_, ?_, ?_, ?_⟩ <;> (rw [Lib.cell_of_heap h]; rfl)
set_option maxHeartbeats 8000000 in
set_option maxRecDepth 100000 in
theorem alt1_any {B : Nat} {X : Nat → Prop} {o c : Nat} {done : List Ex} {e : Ex} {v0 : Value} {w : World} (hX : X o) (hXc : X c) (hoc : o ≠ c) (hXB : ∀ x, X x → B ≤ x) (hBw : B ≤ w.heap.size) (hlen : done.length < 1000000) (hI : AltI B X o c done w) (hre : ReAt (Lo B) w v0 e.rx) :
    Calls Tryz.prog 73 #[v0, .pointer (some ⟨c, 0, none⟩), .pointer (some ⟨o, 0, none⟩)] w (fun x w' => x = .returned (.tuple #[]) ∧ AltI B X o c (done ++ [e]) w' ∧ Below B w w') := by
  obtain ⟨ka, ⟨sa, sb, sc, sd⟩, ksa, hsa⟩ := rx_form e
  have hre0 := hre
  rw [hsa] at hre
  obtain ⟨_, hsok, al1, cap1, rfl, _, _, _⟩ := hre
  simp only at hre0 ⊢
  have hre := hre0
  clear hre0
  have k1a := kind_emp hsa
  have k3a := kind_cls hsa
  have HOK := Lib.hid (show ∀ b, Lo B b → ¬ X b from fun b h hb => by have := hXB b hb; have : b < B := h; omega)
  obtain ⟨hP, hV, hok⟩ := hI
  have hBo := hXB o hX
  have hBc := hXB c hXc
  have hpl : (bareL done).length < 1000000 := Nat.lt_of_le_of_lt (List.length_filter_le _ _) hlen
  have hcl : c < w.heap.size := hV.lt
  cases q1 : e.isEmp with
  | true =>
    rw [q1] at k1a
    have hset : setE (done ++ [e]) = setE done := by rw [isEmp_iff.1 q1, setE_append]; exact Ws.join_nil _
    have hfil : bareL (done ++ [e]) = bareL done := by simp [bareL, q1]
    have hb0 : Below w.heap.size w (w.alloc (.cells #[.int .u8 ka, .int .u64 sa, .int .u64 sb, .int .u64 sc, .int .u64 sd, .slice al1 ksa.length cap1] 27)) := (Below.refl _ w).alloc (Nat.le_refl _) _
    have H := Lib.hid (show AltI B X o c (done ++ [e]) (w.alloc (.cells #[.int .u8 ka, .int .u64 sa, .int .u64 sb, .int .u64 sc, .int .u64 sd, .slice al1 ksa.length cap1] 27)) ∧ Below B w (w.alloc (.cells #[.int .u8 ka, .int .u64 sa, .int .u64 sb, .int .u64 sc, .int .u64 sd, .slice al1 ksa.length cap1] 27)) from ⟨⟨by rw [hfil]; exact hP.below hb0, by rw [hset]; exact hV.below hb0 hcl, by rw [hset]; exact hok⟩, hb0.mono hBw⟩)
    clear hP hV hok hb0 hre hsa hset hfil
    go_enter Tryz.func73, Tryz.ntmps73
    go_wp2
    go_end0
    exact ⟨rfl, H.out.1, H.out.2⟩
  | false =>
  rw [q1] at k1a
  cases q2 : e.isCls with
  | true =>
    rw [q2] at k3a
    have hset : setE (done ++ [e]) = (setE done).join ⟨sa, sb, sc, sd⟩ := by
      cases e with
      | cls s =>
        simp only [Ex.rx] at hsa
        injection hsa with e1 e2 e3
        rw [setE_append, e2]
        exact congrArg _ (Ws.nil_join _)
      | empty => cases q2
      | eps => cases q2
      | seq a b => cases q2
      | alt a b => cases q2
      | star a => cases q2
    have hfil : bareL (done ++ [e]) = bareL done := by simp [bareL, q2]
    have hb0 : Below w.heap.size w (w.alloc (.cells #[.int .u8 ka, .int .u64 sa, .int .u64 sb, .int .u64 sc, .int .u64 sd, .slice al1 ksa.length cap1] 27)) := (Below.refl _ w).alloc (Nat.le_refl _) _
    obtain ⟨⟨ta, tb, tc, td⟩, ht⟩ : ∃ t, t = setE done := ⟨_, rfl⟩
    rw [← ht] at hset hok hV
    obtain ⟨W, hW⟩ : ∃ x, x = (w.alloc (.cells #[.int .u8 ka, .int .u64 sa, .int .u64 sb, .int .u64 sc, .int .u64 sd, .slice al1 ksa.length cap1] 27)).alloc (.cells #[.int .u64 ta, .int .u64 tb, .int .u64 tc, .int .u64 td, .int .u64 sa, .int .u64 sb, .int .u64 sc, .int .u64 sd] 24) := ⟨_, rfl⟩
    have hbW : Below w.heap.size w W := by rw [hW]; exact (hb0.alloc hb0.size _)
    have KJ := Lib.hid (join_any (some ⟨w.heap.size + 1, 0, none⟩) [⟨ta, tb, tc, td⟩, ⟨sa, sb, sc, sd⟩] 2 W (sets_two (by rw [hW]; exact blk_at _ _ (by simp)) hok hsok))
    simp only [List.foldl_cons, List.foldl_nil, Ws.nil_join] at KJ
    rw [show ([(⟨ta, tb, tc, td⟩ : Ws), ⟨sa, sb, sc, sd⟩] : List Ws).length = 2 from rfl, ← hset] at KJ
    have hjok : (setE (done ++ [e])).Ok := by rw [hset]; exact Ws.join_ok hok hsok
    have SE := Lib.hid (show ∀ w2 (a b c' d : Nat), Below W.heap.size W w2 → setE (done ++ [e]) = ⟨a, b, c', d⟩ → AltI B X o c (done ++ [e]) ((((w2.setCell ⟨c, 0, none⟩ (.int .u64 a)).setCell ⟨c, 1, none⟩ (.int .u64 b)).setCell ⟨c, 2, none⟩ (.int .u64 c')).setCell ⟨c, 3, none⟩ (.int .u64 d)) ∧ Below B w ((((w2.setCell ⟨c, 0, none⟩ (.int .u64 a)).setCell ⟨c, 1, none⟩ (.int .u64 b)).setCell ⟨c, 2, none⟩ (.int .u64 c')).setCell ⟨c, 3, none⟩ (.int .u64 d)) from fun w2 a b c' d hb2 hj => by
      have hb := hbW.trans (hb2.mono hbW.size)
      refine ⟨⟨?_, ?_, hjok⟩, ?_⟩
      · rw [hfil]
        exact (hP.below hb).other (by simp [World.setCell]) hXc hoc HOK.out fun b hb _ => by
          rw [Below.heap_setCell _ _ _ _ hb, Below.heap_setCell _ _ _ _ hb, Below.heap_setCell _ _ _ _ hb, Below.heap_setCell _ _ _ _ hb]
      · rw [hj]
        exact (hV.below hb hcl).put4 a b c' d
      · exact ((((hb.mono hBw).setCell (p := ⟨c, 0, none⟩) hBc _).setCell (p := ⟨c, 1, none⟩) hBc _).setCell (p := ⟨c, 2, none⟩) hBc _).setCell (p := ⟨c, 3, none⟩) hBc _)
    have HB := Lib.hid fun w2 (hb2 : Below W.heap.size W w2) => (hV.below (hbW.trans (hb2.mono hbW.size)) hcl).all
    obtain ⟨⟨vc0, vc1, vc2, vc3⟩, -⟩ := hV.all
    have HW := Lib.hid hW
    clear hP hV hok hb0 hre hsa hset hfil hbW hW hjok ht
    go_enter Tryz.func73, Tryz.ntmps73
    go_wp2_with fail
    rw [← HW.out]
    refine KJ.out.mono ?_
    rintro x w2 ⟨rfl, hb2⟩
    obtain ⟨⟨a, b, c', d⟩, hj⟩ : ∃ t, t = setE (done ++ [e]) := ⟨_, rfl⟩
    rw [← hj]
    have HS := Lib.hid (SE.out w2 a b c' d hb2 hj.symm)
    obtain ⟨⟨g0, g1, g2, g3⟩, f0, f1, f2, f3⟩ := HB.out w2 hb2
    clear hb2 hj vc0 vc1 vc2 vc3
    simp only [Ws.v]
    go_wp2
    go_end0
    exact ⟨rfl, HS.out.1, HS.out.2⟩
  | false =>
  rw [q2] at k3a
  have hset : setE (done ++ [e]) = setE done := by
    rw [setE_append, show setE [e] = Ws.nil from setE_none fun t ht => by simp at ht; rw [← ht] at q2; cases q2]
    exact Ws.join_nil _
  have hfil : bareL (done ++ [e]) = bareL done ++ [e] := by simp [bareL, q1, q2]
  have SE := Lib.hid (show ∀ x w', PushPost B X (Lo B) o (bareL done ++ [e]) w x w' → x = .returned (.tuple #[]) ∧ AltI B X o c (done ++ [e]) w' ∧ Below B w w' from fun x w' h => ⟨h.1, ⟨by rw [hfil]; exact h.2.1, by rw [hset]; exact (h.2.2.2 c hXc (Ne.symm hoc)).trans hV, by rw [hset]; exact hok⟩, h.2.2.1⟩)
  clear hset hfil hV hok hXc hoc hXB hBc hcl hlen hsa
  generalize bareL done = ps at *
  obtain ⟨v, xs, h1, hown, h3, h4⟩ := hP
  obtain ⟨al, vc, rfl⟩ : ∃ al c, v = .slice al ps.length c := own_form hown
  obtain ⟨i0, z0, hi0, hz0, hz1, hz2, hz3⟩ := infoR2
  have hz2' := Lib.hid hz2
  have HX : X o := hX
  have HOWN := Lib.hid hown
  have H3 := Lib.hid h3
  have H4 := Lib.hid h4
  have HRE := Lib.hid (show ReAt (fun b => Lo B b ∧ (Value.slice al ps.length vc).ownBlock ≠ some b) w (.agg #[.int .u8 ka, .int .u64 sa, .int .u64 sb, .int .u64 sc, .int .u64 sd, .slice al1 ksa.length cap1]) e.rx from hre.imp fun b _ h => ⟨h, fun hb => by have := (own_lt' hown b hb).1; have : b < B := h; omega⟩)
  have BX := Lib.hid (show (w.alloc (.cells #[.int .u8 ka, .int .u64 sa, .int .u64 sb, .int .u64 sc, .int .u64 sd, .slice al1 ksa.length cap1] 27)).heap[w.heap.size]? = some (.cells #[.int .u8 ka, .int .u64 sa, .int .u64 sb, .int .u64 sc, .int .u64 sd, .slice al1 ksa.length cap1] 27) ∧ Below w.heap.size w (w.alloc (.cells #[.int .u8 ka, .int .u64 sa, .int .u64 sb, .int .u64 sc, .int .u64 sd, .slice al1 ksa.length cap1] 27)) from ⟨blk_new w _, (Below.refl _ w).alloc (Nat.le_refl _) _⟩)
  have V0 := Lib.hid h1
  clear hz2 hX hown h3 h4 hre h1
  have q1s : ((ka : Int) == 1) = false := k1a
  have q3s : ((ka : Int) == 3) = false := k3a
  go_enter Tryz.func73, Tryz.ntmps73
  go_wp2_with fail
  obtain ⟨W, hW⟩ : ∃ x, x = w.alloc (.cells #[.int .u8 ka, .int .u64 sa, .int .u64 sb, .int .u64 sc, .int .u64 sd, .slice al1 ksa.length cap1] 27) := ⟨_, rfl⟩
  rw [← hW] at BX ⊢
  clear hW
  have WB := Lib.hid fun x (hx : Below W.heap.size W x) => BX.out.2.trans (hx.mono BX.out.2.size)
  have VO := Lib.hid fun x (hx : Below W.heap.size W x) => ((WB.out x hx).block o (H4.out o HX).1).trans V0.out
  have CB := Lib.hid fun x (hx : Below W.heap.size W x) => cellsR ((hx.block _ (Array.getElem?_eq_some_iff.1 BX.out.1).1).trans BX.out.1)
  refine wp_region_orderA 4 (fun i => ([SP.eq (.slice al ps.length vc), SP.eq (.agg #[.int .u8 ka, .int .u64 sa, .int .u64 sb, .int .u64 sc, .int .u64 sd, .slice al1 ksa.length cap1]), SP.eq (.int .i64 ps.length), SP.zero] : List SP).getD i SP.free) (fun _ => false) (fun _ _ _ h => by cases h) (by kernel_rfl) (by kernel_rfl) ⟨?_, ?_, ?_, ?_, trivial⟩ ?_
  · intro a x K out get hb hK
    rw [if_pos (wanted_none rfl)]
    have o2 : a.tmps[2]? = some (.pointer (some ⟨o, 0, none⟩)) := out 2 (by kernel_rfl)
    obtain ⟨c0, -⟩ := var_cell (VO.out x hb)
    clear out get
    go_simp
    exact hK _ _ rfl (Below.refl _ _) (fun h => by cases h)
  · intro a x K out get hb hK
    rw [if_pos (wanted_none rfl)]
    have o3 : a.tmps[3]? = some (.pointer (some ⟨w.heap.size, 0, none⟩)) := out 3 (by kernel_rfl)
    obtain ⟨c0, c1, c2, c3, c4, c5, -⟩ := CB.out x hb
    clear out get
    go_simp
    exact hK _ _ rfl (Below.refl _ _) (fun h => by cases h)
  · intro a x K out get hb hK
    rw [if_pos (wanted_none rfl)]
    obtain ⟨y6, hy6, rfl⟩ := get 0 _ _ rfl rfl (by kernel_rfl)
    clear out get
    go_simp
    exact hK _ _ rfl (Below.refl _ _) (fun h => by cases h)
  · intro a x K out get hb hK
    rw [if_pos (wanted_none rfl)]
    clear out get
    go_simp
    exact hK _ _ ⟨_, rfl, blk_new _ _⟩ (bel_al _ _) (fun h => by cases h)
  refine ao_finA (isD := fun s => decide (6 ≤ s) && decide (s ≤ 11)) (by kernel_rfl) ?_
  intro f x hv hne hb
  clear hne
  have e6 : f 6 = _ := hv 0 _ _ (by decide) rfl rfl
  have e8 : f 8 = _ := hv 2 _ _ (by decide) rfl rfl
  have e7 : f 7 = _ := hv 1 _ _ (by decide) rfl rfl
  have he := HRE.out.below (WB.out x hb)
  obtain ⟨gz, e9, hz⟩ := hv 3 _ _ (by decide) rfl rfl
  have hbx := WB.out x hb
  have hox := VO.out x hb
  have HE := Lib.hid he
  have hownx := ownR_below HOWN.out hbx
  have hBx := Nat.le_trans hBw hbx.size
  clear hv he
  generalize hF : (Act.mk (List.toArray (frm f _ 0 _)) _) = fr
  simp [frm] at hF
  rw [e6, e8, e7, e9] at hF
  subst hF
  generalize f 10 = u10 at *
  generalize f 11 = u11 at *
  clear e6 e8 e7 e9 f
  refine wp_end (n := 4) (by kernel_rfl) rfl rfl rfl rfl ?_
  refine step_append_lies _ rfl (.tmp 6) (.tmp 9) 25 rfl B 27 i0 z0 6 64 Tryz.underlying25 hi0 hz0 hz1 hz2'.out hz3 (by decide) (.slice al ps.length vc) ps.length xs rfl hownx ⟨gz, 0, none⟩ 1 1 [.int .u8 0, .int .u64 0, .int .u64 0, .int .u64 0, .int .u64 0, .slice none 0 0] rfl rfl (zero_at hz) zero6_one (by decide) (by unfold maxLen; omega) (by omega) hBx _ rfl ?_
  intro g' cap' w2 hown hgrow hat hlt
  obtain ⟨⟨n0, n1, n2, n3, n4, n5⟩, m0, m1, m2, m3, m4, m5⟩ := new6 HOWN.out.1 hown
  have hne : ¬ o = g' := fun e => by
    rcases hat with h | h
    · exact (H4.out o HX).2 (by rw [h, e])
    · have := (H4.out o HX).1; have := hbx.size; omega
  have hne' : ¬ g' = o := fun e => hne e.symm
  have hvo := (hgrow.block o (Nat.lt_of_lt_of_le (H4.out o HX).1 hbx.size) fun e => (H4.out o HX).2 e.symm).trans hox
  obtain ⟨v0c, v0f⟩ := var_cell hvo
  have hidx : (ps.length : Int) < (ps.length : Int) + 1 := by omega
  have HOW := Lib.hid hown
  have HGR := Lib.hid hgrow
  have HAT := Lib.hid hat
  have HBX := Lib.hid hbx
  have HVO := Lib.hid hvo
  clear hown hgrow hat hbx hvo hox hz hownx hBx hb
  refine ⟨?_, ?_⟩
  · rw [if_pos (wanted_none rfl)]
    go_simp
    refine ⟨?_, ?_⟩
    · go_wp2
      go_end0
      with_reducible exact SE.out _ _ (push_closeA HX HOK.out hBo hBw HOWN.out H3.out H4.out HBX.out HE.out HOW.out HGR.out HAT.out HVO.out hne)
    · go_wp2
      go_end0
      with_reducible exact SE.out _ _ (push_closeB HX HOK.out hBo hBw HOWN.out H3.out H4.out HBX.out HE.out HOW.out HGR.out HAT.out HVO.out hne)
  · go_wp2
    go_end0
    with_reducible exact SE.out _ _ (push_closeB HX HOK.out hBo hBw HOWN.out H3.out H4.out HBX.out HE.out HOW.out HGR.out HAT.out HVO.out hne)
end Go.Proofs.YtfmdcnfniimkoaaGreat
/- norm.seq, star. -/
namespace Go.Proofs.YtfmdcnfniimkoaaGreat
open Go.RowKit
/-- The end of a function whose result lies in a block that was made ahead of all that it calls. -/
theorem ret_new {fn : Func} {a : Act} {w W : World} {k g m : Nat} {r : Rx} {y0 y1 y2 y3 y4 y5 : Value} (hz : W.heap[g]? = some zR) (h : ReAt (New m) W (.agg #[y0, y1, y2, y3, y4, y5]) r) (hm : g < m) (hb : Below w.heap.size w W) (hg : w.heap.size ≤ g)
    (hres : fn.results = #[.cell k 27]) (hslot : a.tmps.getD k undef = .pointer (some ⟨g, 0, none⟩)) (hd : a.defers = []) : bodyPost Tryz.prog fn (NewPost r w) .ret a (putW W g y0 y1 y2 y3 y4 y5) :=
  ret_re (putR hz _ _ _ _ _ _) hres hslot hd ⟨_, rfl, h.go ⟨by rw [putW_size]; exact Nat.le_refl _, fun b _ h => by
    unfold New at h ⊢
    exact ⟨by omega, putW_other _ _ _ _ _ _ _ _ (by omega)⟩⟩, putB hb hg _ _ _ _ _ _⟩
theorem filter_keep {p : List Ex} (h : p.any Ex.isEmp = false) : p.filter seqKeep = p.filter fun x => !x.isEps := by
  refine List.filter_congr fun x hx => ?_
  have h1 := List.any_eq_false.1 h x hx
  have h2 : x.isEmp = false := by simpa using h1
  simp [seqKeep, h2]
theorem three_new (w : World) (X Y Z : Obj) : (((w.alloc X).alloc Y).alloc Z).heap[w.heap.size]? = some X ∧ (((w.alloc X).alloc Y).alloc Z).heap[w.heap.size + 1]? = some Y ∧ (((w.alloc X).alloc Y).alloc Z).heap[w.heap.size + 2]? = some Z ∧ (((w.alloc X).alloc Y).alloc Z).heap.size = w.heap.size + 3 :=
  ⟨(Below.heap_alloc _ _ _ (by simp; omega)).trans ((Below.heap_alloc _ _ _ (by simp)).trans (blk_new w _)), (Below.heap_alloc _ _ _ (by simp)).trans (blk_at _ _ (by simp)), blk_at _ _ (by simp), by simp⟩
set_option maxRecDepth 100000 in
set_option maxHeartbeats 8000000 in
theorem seq_any (ok : Nat → Prop) (l : List Ex) (al : Option Addr) (cap : Nat) (w : World) (hlen : l.length < 2199023255552) (hM : (partL 4 l).length ≤ 1000000) (hR : RowAt ok w al (l.map Ex.rx)) :
    Calls Tryz.prog 42 #[.slice al l.length cap] w (NewPost (seqP (partL 4 l)).rx w) := by
  obtain ⟨W1, hW1⟩ : ∃ x, x = ((w.alloc zR).alloc (.cells #[.slice none 0 0] 25)).alloc (.cells #[.bool false] 4) := ⟨_, rfl⟩
  have hb1 : Below w.heap.size w W1 := by rw [hW1]; exact al3 w _ _ _
  obtain ⟨hz, ho, hc, hsz⟩ := three_new w zR (.cells #[.slice none 0 0] 25) (.cells #[.bool false] 4)
  rw [← hW1] at hz ho hc hsz
  have hB : w.heap.size + 1 ≤ W1.heap.size := by omega
  have hR1 : RowAt (Lo (w.heap.size + 1)) W1 al (l.map Ex.rx) := (hR.imp (ok' := Lo (w.heap.size + 1)) fun b hb _ => Nat.lt_succ_of_lt hb).below hb1
  obtain ⟨X, hX⟩ : ∃ X : Nat → Prop, X = fun b => b = w.heap.size + 1 ∨ b = w.heap.size + 2 := ⟨_, rfl⟩
  have hXB : ∀ x, X x → w.heap.size + 1 ≤ x := fun x h => by rw [hX] at h; rcases h with rfl | rfl <;> omega
  have hXo : X (w.heap.size + 1) := by rw [hX]; exact .inl rfl
  have hXc : X (w.heap.size + 2) := by rw [hX]; exact .inr rfl
  have hXl : ∀ x, X x → x < W1.heap.size := fun x h => by rw [hX] at h; rcases h with rfl | rfl <;> omega
  have hT : Tell 1000000 (w.heap.size + 1) W1 70 #[.pointer (some ⟨w.heap.size + 2, 0, none⟩), .pointer (some ⟨w.heap.size + 1, 0, none⟩)] (SeqI (w.heap.size + 1) X (w.heap.size + 1) (w.heap.size + 2)) (fun _ => True) := by
    refine ⟨fun v W => rfl, fun done W W' h hb => ⟨h.1.below hb, (hb.block _ (Array.getElem?_eq_some_iff.1 h.2).1).trans h.2⟩, fun done e v W hd hI hB' _ hre => ?_⟩
    exact seq1_any hXo hXc (by omega) hXB (Nat.le_trans hB hB'.size) hd hI hre
  have K0 := each_any (k := 4) (.inl rfl) hB hT (Ex.sum l) l al cap [] W1 (Nat.le_refl _) hlen hR1 (fun _ _ => trivial) (by simpa using hM) ⟨PV.start ho hXl, hc⟩ (Below.refl _ _)
  simp only [List.nil_append] at K0
  have hsp : seqP (partL 4 l) = if (partL 4 l).any Ex.isEmp = true then .empty else foldS ((partL 4 l).filter fun x => !x.isEps) := rfl
  rw [hsp]
  clear hsp
  generalize partL 4 l = p at *
  generalize hres : (if p.any Ex.isEmp = true then Ex.empty else foldS (p.filter fun x => !x.isEps)) = res
  have HRES := Lib.hid hres
  have K := Lib.hid K0
  rw [show (((4 : Nat) : Int)) = 4 from rfl] at K
  have HB1 := Lib.hid hb1
  have HW1 := Lib.hid hW1
  have HZ := Lib.hid fun w2 (h : Below (w.heap.size + 1) W1 w2) => (h.block _ (Nat.lt_succ_self _)).trans hz
  have KO := Lib.hid fun W => or_any (ok := fun _ => True) [] none 0 W (by decide) (.inl rfl)
  rw [show foldR 5 1 [] = Ex.empty.rx from rfl, show ([] : List Rx).length = 0 from rfl] at KO
  have hsz2 : w.heap.size < W1.heap.size := by omega
  clear hR hR1 hT hb1 ho hc hz hX hXB hXo hXc hXl hsz hB K0 hres
  go_enter Tryz.func42, Tryz.ntmps42
  go_wp2_with fail
  rw [← HW1.out]
  refine K.out.mono ?_
  rintro x w2 ⟨rfl, hI, hb2⟩
  obtain ⟨hP, hV⟩ := hI
  obtain ⟨al2, cap2, hv, hcp, hr⟩ := hP.out
  obtain ⟨c0, -⟩ := var_cell hv
  obtain ⟨c1, -⟩ := var_cellT hV
  have hz2 := HZ.out w2 hb2
  have HZ2 := Lib.hid hz2
  have HB2 := Lib.hid (HB1.out.trans (hb2.mono (Nat.le_succ _)))
  have hs2 : w.heap.size < w2.heap.size := Nat.lt_of_lt_of_le hsz2 hb2.size
  have HR := Lib.hid hr
  have hpl : (p.filter seqKeep).length < 2199023255552 := Nat.lt_of_le_of_lt (List.length_filter_le _ _) (by omega)
  clear hP hV hv hcp hr hb2 K HW1 hz2
  cases hq : p.any Ex.isEmp with
  | true =>
    rw [hq] at c1
    have hr' : res = .empty := by rw [← HRES.out, if_pos hq]
    have HR' := Lib.hid hr'
    clear hr'
    go_wp2_with fail
    refine (KO.out _).mono ?_
    rintro x w3 ⟨v1, rfl, hv1, hb3⟩
    obtain ⟨p0, p1, p2, p3, p4, pl, pn, pc, rfl⟩ := cells_re hv1
    have hz3 := (hb3.block _ hs2).trans HZ2.out
    have HV := Lib.hid hv1
    have HB3 := Lib.hid (HB2.out.trans (hb3.mono HB2.out.size))
    have HZ3 := Lib.hid hz3
    obtain ⟨d0, d1, d2, d3, d4, d5, f0, f1, f2, f3, f4, f5⟩ := cellsR hz3
    clear hv1 hb3 hz3 c0 c1
    go_wp2
    rw [HR'.out]
    exact ret_new HZ3.out HV.out hs2 HB3.out (Nat.le_refl _) Tryz.results42 rfl rfl
  | false =>
    rw [hq] at c1
    have hr' : res = foldS (p.filter seqKeep) := by rw [← HRES.out, if_neg (by rw [hq]; decide), filter_keep hq]
    have HR' := Lib.hid hr'
    clear hr'
    have KT := Lib.hid fun W (hb : Below w2.heap.size w2 W) => then_any ((p.filter seqKeep).map Ex.rx) al2 cap2 W (by rw [List.length_map]; exact hpl) (HR.out.below hb)
    rw [← foldS_rx, List.length_map] at KT
    go_wp2_with fail
    refine (KT.out _ (Below.refl _ _)).mono ?_
    rintro x w3 ⟨v1, rfl, hv1, hb3⟩
    obtain ⟨p0, p1, p2, p3, p4, pl, pn, pc, rfl⟩ := cells_re hv1
    have hz3 := (hb3.block _ hs2).trans HZ2.out
    have HV := Lib.hid hv1
    have HB3 := Lib.hid (HB2.out.trans (hb3.mono HB2.out.size))
    have HZ3 := Lib.hid hz3
    obtain ⟨d0, d1, d2, d3, d4, d5, f0, f1, f2, f3, f4, f5⟩ := cellsR hz3
    clear hv1 hb3 hz3 c0 c1 KT
    go_wp2
    rw [HR'.out]
    exact ret_new HZ3.out HV.out hs2 HB3.out (Nat.le_refl _) Tryz.results42 rfl rfl
end Go.Proofs.YtfmdcnfniimkoaaGreat
