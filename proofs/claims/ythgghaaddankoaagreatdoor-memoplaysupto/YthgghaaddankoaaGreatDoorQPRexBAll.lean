/- Lemmas of mine, merged: QPRexB, QPRexC, QPRexD, QPOrdM, QPRowV, QPOrdH, QPMemC, QPMemG. -/
import Derived.StillTailTactics
import Derived.Test.YthgghaaddankoaaGreatDoorQPSetAAll
import Derived.OwnWalk
import Derived.Laws.OwnMore
/- Lemmas of mine. -/
namespace Go.Proofs.YthgghaaddankoaaGreatDoor
open Go.RowKit
def sameW (s t : Ws) : Bool := decide (s.a = t.a ∧ s.b = t.b ∧ s.c = t.c ∧ s.d = t.d)
theorem sameW_iff {s t : Ws} : sameW s t = true ↔ s = t := by
  obtain ⟨a, b, c, d⟩ := s; obtain ⟨a', b', c', d'⟩ := t; simp [sameW]
mutual
def sameR : Rx → Rx → Bool
  | .node k s ks, .node k' s' ks' => decide (k = k') && (sameW s s' && sameRs ks ks')
def sameRs : List Rx → List Rx → Bool
  | [], [] => true
  | a :: l, b :: m => sameR a b && sameRs l m
  | [], _ :: _ => false
  | _ :: _, [] => false
end
mutual
theorem sameR_iff : ∀ (a b : Rx), sameR a b = true ↔ a = b
  | .node k s ks, .node k' s' ks' => by
    unfold sameR; simp only [Bool.and_eq_true, decide_eq_true_eq, sameW_iff, sameRs_iff ks ks', Rx.node.injEq]
theorem sameRs_iff : ∀ (l m : List Rx), sameRs l m = true ↔ l = m
  | [], [] => by simp [sameRs]
  | a :: l, b :: m => by
    unfold sameRs; simp only [Bool.and_eq_true, sameR_iff a b, sameRs_iff l m, List.cons.injEq]
  | [], _ :: _ => by simp [sameRs]
  | _ :: _, [] => by simp [sameRs]
end
theorem sameRs_length {l m : List Rx} (h : l.length ≠ m.length) : sameRs l m = false := by
  have : ¬ sameRs l m = true := fun e => h (by rw [(sameRs_iff l m).1 e])
  simpa using this
theorem sameRs_at {l m : List Rx} (i : Nat) (h : i < l.length) (h' : i < m.length) (hne : sameR l[i] m[i] = false) : sameRs l m = false := by
  have : ¬ sameRs l m = true := fun e => by
    have := (sameRs_iff l m).1 e; subst this; have h2 := (sameR_iff l[i] l[i]).2 rfl; rw [h2] at hne; cases hne
  simpa using this
theorem sameRs_all {l m : List Rx} (hl : l.length = m.length) (h : ∀ i (h1 : i < l.length) (h2 : i < m.length), sameR l[i] m[i] = true) : sameRs l m = true := by
  rw [sameRs_iff]
  apply List.ext_getElem hl
  intro i h1 h2; exact (sameR_iff _ _).1 (h i h1 h2)
def sameInv (ks ks' : List Rx) (w : World) (v v' : Value) (y : Value) (wr : World) : Prop := ∃ i : Nat, i ≤ ks.length ∧ y = .int .i64 i ∧ (∀ j (h1 : j < ks.length) (h2 : j < ks'.length), j < i → sameR ks[j] ks'[j] = true) ∧ wr.cell? ⟨w.heap.size, 5, none⟩ = some v ∧ wr.cell? ⟨w.heap.size + 1, 5, none⟩ = some v' ∧ Below w.heap.size w wr
set_option maxRecDepth 100000 in
set_option maxHeartbeats 2000000 in
theorem refSame_any {ok ok' : Nat → Prop} (N : Nat) : ∀ (r t : Rx), r.size ≤ N → ∀ (v u : Value) (w : World), ReAt ok w v r → ReAt ok' w u t →
    Calls Tryz.prog 17 #[v, u] w fun e w' => e = .returned (.bool (sameR r t)) ∧ Below w.heap.size w w' := by
  induction N with
  | zero => intro r _ h; have := r.size_pos; omega
  | succ N ih =>
    rintro ⟨k, s, ks⟩ ⟨k', s', ks'⟩ hN v u w hR hU; obtain ⟨hk, hs, al, cap, rfl, hcap, hmax, hrow⟩ := hR; obtain ⟨hk', hs', al', cap', rfl, hcap', hmax', hrow'⟩ := hU; (have hN' : Rx.sizes ks ≤ N := by simp [Rx.size] at hN; omega); have IH := Lib.hid ih; have HR := Lib.hid hrow; have HU := Lib.hid hrow'; clear ih hrow hrow' hN; unfold sameR
    by_cases hkk : k = k'
    · subst hkk
      by_cases hss : s = s'
      · subst hss; have hq := eqW_yes s; have hsw : sameW s s = true := sameW_iff.2 rfl; rw [hsw]; obtain ⟨sa, sb, sc, sd⟩ := s; unfold Ws.v at hq; clear hsw
        by_cases hll : ks.length = ks'.length
        · (have d1 : ((ks.length : Int) != (ks'.length : Int)) = false := by simp; omega); (have l1 : ks.length ≤ ks'.length := by omega); (have l2 : ks'.length ≤ ks.length := by omega); have HLL := Lib.hid hll; clear hll; go_enter Tryz.func17, Tryz.ntmps17; go_wp2
          go_loopw [30] (fun y wr => sameInv ks ks' w (.slice al ks.length cap) (.slice al' ks'.length cap') y wr) (fun y _ => ks.length - (intOf y).toNat)
          case atStart =>
            refine ⟨0, Nat.zero_le _, rfl, fun j _ _ h => absurd h (Nat.not_lt_zero _), ?_, ?_, ((Below.refl _ _).alloc (Nat.le_refl _) _).alloc (by simp) _⟩ <;> simp
          case round =>
            obtain ⟨i, hi, rfl, hall, f5, g5, hb⟩ := hrel; have HA := Lib.hid hall; clear hall
            by_cases hlt : i < ks.length
            · (have hlt' : i < ks'.length := by omega); obtain ⟨b, off, hab, hblt, hnode⟩ := HR.out.kid hlt; obtain ⟨b', off', hab', hblt', hnode'⟩ := HU.out.kid hlt'; subst hab; subst hab'; have hkid := NodeAt.below hb _ hblt hnode; have hkid' := NodeAt.below hb _ hblt' hnode'; have hks := size_kid hlt; have HSA := fun h => sameRs_at (l := ks) (m := ks') i hlt hlt' h
              have HSB : ∀ h : sameR ks[i] ks'[i] = true, ∀ j (h1 : j < ks.length) (h2 : j < ks'.length), j < i + 1 → sameR ks[j] ks'[j] = true := by
                intro h j h1 h2 hj
                by_cases e : j = i
                · subst e; exact h
                · exact HA.out j h1 h2 (by omega)
              generalize ks[i] = kid at *; generalize ks'[i] = kid' at *; have KI := fun v u (h : ReAt ok _ v kid) (h' : ReAt ok' _ u kid') => IH.out kid kid' (by omega) v u wr.drew h h'; generalize sameR kid kid' = q at *; obtain ⟨kk, ss, kks⟩ := kid; obtain ⟨kk', ss', kks'⟩ := kid'; obtain ⟨bl, bcap, ⟨c0, c1, c2, c3, c4, c5⟩, hre⟩ := hkid.read; obtain ⟨bl', bcap', ⟨e0, e1, e2, e3, e4, e5⟩, hre'⟩ := hkid'.read; have kI := KI _ _ (hre.below (Below.refl _ _).drew) (hre'.below (Below.refl _ _).drew); obtain ⟨ta, tb, tc, td⟩ := ss; obtain ⟨ta', tb', tc', td'⟩ := ss'; simp only at c0 c1 c2 c3 c4 c5 e0 e1 e2 e3 e4 e5; have KK := Lib.hid kI; have HSA' := Lib.hid HSA; have HSB' := Lib.hid HSB; clear kI KI hre hre' hkid hkid' hnode hnode' HSA HSB hks; (have q1 : (i : Int) < (ks.length : Int) := by omega); (have q2 : (i : Int) < (ks'.length : Int) := by omega); go_wp2_with fail
              go_still_tail 10, (by kernel_rfl)
              change wpList _ _ _ _ _ wr.drew
              go_wp2_with fail; refine KK.out.mono ?_; rintro e w1 ⟨rfl, hb1⟩; have f5' := hb1.cell (p := ⟨w.heap.size, 5, none⟩) (show w.heap.size < wr.drew.heap.size from box_lt f5); have g5' := hb1.cell (p := ⟨w.heap.size + 1, 5, none⟩) (show w.heap.size + 1 < wr.drew.heap.size from box_lt g5); rw [show wr.drew.cell? ⟨w.heap.size, 5, none⟩ = _ from f5] at f5'; rw [show wr.drew.cell? ⟨w.heap.size + 1, 5, none⟩ = _ from g5] at g5'; replace hb := hb.drew.trans (hb1.mono hb.drew.size); clear c0 c1 c2 c3 c4 c5 e0 e1 e2 e3 e4 e5 hb1 f5 g5
              cases q with
              | true =>
                go_wp2; exact ⟨⟨i + 1, by omega, by go_num, HSB'.out trivial, f5', g5', hb⟩, by simp [intOf]; omega⟩
              | false =>
                go_wp2; go_ret; exact ⟨by rw [HSA'.out trivial]; simp, hb⟩
            · have hall : sameRs ks ks' = true := sameRs_all HLL.out fun j h1 h2 => HA.out j h1 h2 (by omega); have HX := Lib.hid hall; clear hall; go_wp2; go_ret; exact ⟨by rw [HX.out]; simp, hb⟩
        · (have d1 : ((ks.length : Int) != (ks'.length : Int)) = true := by simp; omega); have hno := Lib.hid (sameRs_length hll); clear hll; go_enter Tryz.func17, Tryz.ntmps17; go_wp2; go_ret; exact ⟨by rw [hno.out]; simp, ((Below.refl _ _).alloc (Nat.le_refl _) _).alloc (by simp) _⟩
      · have hq := eqW_no hss
        have hsw : sameW s s' = false := by
          have : ¬ sameW s s' = true := fun e => hss (sameW_iff.1 e)
          simpa using this
        rw [hsw]; obtain ⟨sa, sb, sc, sd⟩ := s; obtain ⟨sa', sb', sc', sd'⟩ := s'; unfold Ws.v at hq; clear hsw hss; go_enter Tryz.func17, Tryz.ntmps17; go_wp2; go_ret; exact ⟨by simp, ((Below.refl _ _).alloc (Nat.le_refl _) _).alloc (by simp) _⟩
    · (have hd : decide (k = k') = false := by simpa using hkk); rw [hd]; (have d1 : ((k : Int) != (k' : Int)) = true := by simp; omega); obtain ⟨sa, sb, sc, sd⟩ := s; obtain ⟨sa', sb', sc', sd'⟩ := s'; clear hd hkk; go_enter Tryz.func17, Tryz.ntmps17; go_wp2; go_ret; exact ⟨by simp, ((Below.refl _ _).alloc (Nat.le_refl _) _).alloc (by simp) _⟩
open Go.RowKit
def RePost (ok : Nat → Prop) (r : Rx) (w : World) (e : Ending) (w' : World) : Prop := ∃ v, e = .returned v ∧ ReAt (fun b => ok b ∨ w.heap.size ≤ b) w' v r ∧ Below w.heap.size w w'
def New (n b : Nat) : Prop := n ≤ b
def NewPost (r : Rx) (w : World) (e : Ending) (w' : World) : Prop := ∃ v, e = .returned v ∧ ReAt (New w.heap.size) w' v r ∧ Below w.heap.size w w'
theorem ret_re {fn : Func} {R : Ending → World → Prop} {a : Act} {W : World} {k g : Nat} {x0 x1 x2 x3 x4 x5 : Value} {fz : Nat × Nat} (hB : W.heap[g]? = some (.cells #[x0, x1, x2, x3, x4, x5] 39 fz)) (hres : fn.results = #[.cell k 39]) (hslot : a.tmps.getD k undef = .pointer (some ⟨g, 0, none⟩)) (hd : a.defers = []) (hR : R (.returned (.agg #[x0, x1, x2, x3, x4, x5])) W) : bodyPost Tryz.prog fn R .ret a W := by
  (have c0 : W.cell? ⟨g, 0, none⟩ = some x0 := by rw [Lib.cell_of_heap hB]; rfl); (have c1 : W.cell? ⟨g, 1, none⟩ = some x1 := by rw [Lib.cell_of_heap hB]; rfl); (have c2 : W.cell? ⟨g, 2, none⟩ = some x2 := by rw [Lib.cell_of_heap hB]; rfl); (have c3 : W.cell? ⟨g, 3, none⟩ = some x3 := by rw [Lib.cell_of_heap hB]; rfl); (have c4 : W.cell? ⟨g, 4, none⟩ = some x4 := by rw [Lib.cell_of_heap hB]; rfl); (have c5 : W.cell? ⟨g, 5, none⟩ = some x5 := by rw [Lib.cell_of_heap hB]; rfl); refine bodyPost_ret (v := .agg #[x0, x1, x2, x3, x4, x5]) ?_ hd hR; (have hslot' : a.tmps[k]?.getD undef = .pointer (some ⟨g, 0, none⟩) := by simpa using hslot); simp [results, hres, hslot', go_sem, c0, c1, c2, c3, c4, c5]
theorem blk_new (w : World) (o : Obj) : (w.alloc o).heap[w.heap.size]? = some o := by
  show (w.heap.push o)[w.heap.size]? = some o; simp
theorem node_of {ok : Nat → Prop} {w : World} {b off : Nat} {k : Nat} {s : Ws} {ks : List Rx} {al : Option Addr} {cap : Nat} (h : ReAt ok w (.agg #[.int .u8 k, .int .u64 s.a, .int .u64 s.b, .int .u64 s.c, .int .u64 s.d, .slice al ks.length cap]) (.node k s ks))
    (c0 : w.cell? ⟨b, off, none⟩ = some (.int .u8 k)) (c1 : w.cell? ⟨b, off + 1, none⟩ = some (.int .u64 s.a)) (c2 : w.cell? ⟨b, off + 2, none⟩ = some (.int .u64 s.b)) (c3 : w.cell? ⟨b, off + 3, none⟩ = some (.int .u64 s.c)) (c4 : w.cell? ⟨b, off + 4, none⟩ = some (.int .u64 s.d)) (c5 : w.cell? ⟨b, off + 5, none⟩ = some (.slice al ks.length cap)) :
    NodeAt ok w b off (.node k s ks) := by
  obtain ⟨hk, hs, al', cap', e, h1, h2, h3⟩ := h; simp at e; obtain ⟨rfl, rfl⟩ := e; unfold NodeAt; exact ⟨hk, hs, ⟨c0, c1, c2, c3, c4⟩, al, cap, c5, h1, h2, h3⟩
theorem bareAt (ok : Nat → Prop) (w : World) (k : Nat) (s : Ws) (hk : k < 256) (hs : s.Ok) : ReAt ok w (.agg #[.int .u8 k, .int .u64 s.a, .int .u64 s.b, .int .u64 s.c, .int .u64 s.d, .slice none 0 0]) (.node k s []) :=
  ⟨hk, hs, none, 0, rfl, Nat.le_refl _, by decide, .inl rfl⟩
theorem bare_any (k : Nat) (w : World) (hk : k < 256) :
    Calls Tryz.prog 63 #[.int .u8 k] w (NewPost (.node k Ws.nil []) w) := by
  go_enter Tryz.func63, Tryz.ntmps63; go_wp2; exact ret_re (blk_new w _) Tryz.results63 rfl rfl ⟨_, rfl, bareAt _ _ k Ws.nil hk Ws.nil_ok, (Below.refl _ w).alloc (Nat.le_refl _) _⟩
theorem node_at {ok : Nat → Prop} {w : World} {b off : Nat} {x0 x1 x2 x3 x4 x5 : Value} {r : Rx} (h : ReAt ok w (.agg #[x0, x1, x2, x3, x4, x5]) r)
    (c0 : w.cell? ⟨b, off, none⟩ = some x0) (c1 : w.cell? ⟨b, off + 1, none⟩ = some x1) (c2 : w.cell? ⟨b, off + 2, none⟩ = some x2) (c3 : w.cell? ⟨b, off + 3, none⟩ = some x3) (c4 : w.cell? ⟨b, off + 4, none⟩ = some x4) (c5 : w.cell? ⟨b, off + 5, none⟩ = some x5) : NodeAt ok w b off r := by
  obtain ⟨k, s, ks⟩ := r; have h' := h; obtain ⟨_, _, al, cap, e, _⟩ := h'; simp at e; obtain ⟨rfl, rfl, rfl, rfl, rfl, rfl⟩ := e; exact node_of h c0 c1 c2 c3 c4 c5
theorem row_one {ok : Nat → Prop} {W : World} {g : Nat} {x0 x1 x2 x3 x4 x5 : Value} {fz : Nat × Nat} {r : Rx} (hB : W.heap[g]? = some (.cells #[x0, x1, x2, x3, x4, x5] 39 fz)) (hg : ok g) (h : ReAt ok W (.agg #[x0, x1, x2, x3, x4, x5]) r) : RowAt ok W (some ⟨g, 0, none⟩) [r] := by
  refine .inr ⟨g, 0, rfl, (Array.getElem?_eq_some_iff.1 hB).1, hg, ?_⟩; unfold NodesAt NodesAt
  refine ⟨node_at h ?_ ?_ ?_ ?_ ?_ ?_, trivial⟩ <;> (rw [Lib.cell_of_heap hB]; rfl)
theorem row_two {ok : Nat → Prop} {W : World} {g : Nat} {x0 x1 x2 x3 x4 x5 y0 y1 y2 y3 y4 y5 : Value} {fz : Nat × Nat} {r t : Rx} (hB : W.heap[g]? = some (.cells #[x0, x1, x2, x3, x4, x5, y0, y1, y2, y3, y4, y5] 39 fz)) (hg : ok g) (h : ReAt ok W (.agg #[x0, x1, x2, x3, x4, x5]) r) (h' : ReAt ok W (.agg #[y0, y1, y2, y3, y4, y5]) t) : RowAt ok W (some ⟨g, 0, none⟩) [r, t] := by
  refine .inr ⟨g, 0, rfl, (Array.getElem?_eq_some_iff.1 hB).1, hg, ?_⟩; unfold NodesAt NodesAt NodesAt
  refine ⟨node_at h ?_ ?_ ?_ ?_ ?_ ?_, node_at h' ?_ ?_ ?_ ?_ ?_ ?_, trivial⟩ <;> (rw [Lib.cell_of_heap hB]; rfl)
theorem shape_re {ok : Nat → Prop} {w : World} {v : Value} {r : Rx} (h : ReAt ok w v r) : ∃ x0 x1 x2 x3 x4 x5, v = .agg #[x0, x1, x2, x3, x4, x5] := by
  obtain ⟨k, s, ks⟩ := r; obtain ⟨_, _, al, cap, e, _⟩ := h; exact ⟨_, _, _, _, _, _, e⟩
theorem blk_at {g : Nat} (W : World) (o : Obj) (h : g = W.heap.size) : (W.alloc o).heap[g]? = some o := by rw [h]; exact blk_new W o
set_option maxHeartbeats 1000000 in
theorem many_any {ok : Nat → Prop} (r : Rx) (v : Value) (w : World) (h : ReAt ok w v r) :
    Calls Tryz.prog 71 #[v] w (RePost ok (.node 6 Ws.nil [r]) w) := by
  obtain ⟨x0, x1, x2, x3, x4, x5, rfl⟩ := shape_re h; have HR := Lib.hid h; clear h; go_enter Tryz.func71, Tryz.ntmps71; go_wp2
  have hb : Below w.heap.size w (((w.alloc (.cells #[x0, x1, x2, x3, x4, x5] 39)).alloc (.cells #[.int .u8 6, .int .u64 0, .int .u64 0, .int .u64 0, .int .u64 0, .slice (some ⟨w.heap.size + 1 + 1, 0, none⟩) 1 1] 39)).alloc (.cells #[x0, x1, x2, x3, x4, x5] 39)) :=
    (((Below.refl _ w).alloc (Nat.le_refl _) _).alloc (by simp) _).alloc (by simp; omega) _
  refine ret_re ((Below.heap_alloc _ _ _ (by simp)).trans (blk_at _ _ (by simp))) Tryz.results71 rfl rfl ⟨_, rfl, ⟨by decide, Ws.nil_ok, _, _, rfl, Nat.le_refl _, by simp, ?_⟩, hb⟩; exact row_one (blk_at _ _ (by simp)) (.inr (by omega)) ((HR.out.below hb).imp fun _ _ h => .inl h)
set_option maxHeartbeats 1000000 in
theorem two_any {ok : Nat → Prop} (k : Nat) (r t : Rx) (v u : Value) (w : World) (hk : k < 256) (h : ReAt ok w v r) (h' : ReAt ok w u t) :
    Calls Tryz.prog 64 #[.int .u8 k, v, u] w (RePost ok (.node k Ws.nil [r, t]) w) := by
  obtain ⟨x0, x1, x2, x3, x4, x5, rfl⟩ := shape_re h; obtain ⟨y0, y1, y2, y3, y4, y5, rfl⟩ := shape_re h'; have HR := Lib.hid h; have HU := Lib.hid h'; clear h h'; go_enter Tryz.func64, Tryz.ntmps64; go_wp2
  have hb : Below w.heap.size w ((((w.alloc (.cells #[x0, x1, x2, x3, x4, x5] 39)).alloc (.cells #[y0, y1, y2, y3, y4, y5] 39)).alloc (.cells #[.int .u8 k, .int .u64 0, .int .u64 0, .int .u64 0, .int .u64 0, .slice (some ⟨w.heap.size + 1 + 1 + 1, 0, none⟩) 2 2] 39)).alloc (.cells #[x0, x1, x2, x3, x4, x5, y0, y1, y2, y3, y4, y5] 39)) :=
    ((((Below.refl _ w).alloc (Nat.le_refl _) _).alloc (by simp) _).alloc (by simp; omega) _).alloc (by simp; omega) _
  refine ret_re ((Below.heap_alloc _ _ _ (by simp)).trans (blk_at _ _ (by simp))) Tryz.results64 rfl rfl ⟨_, rfl, ⟨hk, Ws.nil_ok, _, _, rfl, Nat.le_refl _, by simp, ?_⟩, hb⟩; exact row_two (blk_at _ _ (by simp)) (.inr (by omega)) ((HR.out.below hb).imp fun _ _ h => .inl h) ((HU.out.below hb).imp fun _ _ h => .inl h)
theorem cells_re {ok : Nat → Prop} {w : World} {v : Value} {r : Rx} (h : ReAt ok w v r) : ∃ k a b c d al n cap, v = .agg #[.int .u8 k, .int .u64 a, .int .u64 b, .int .u64 c, .int .u64 d, .slice al n cap] := by
  obtain ⟨k, s, ks⟩ := r; unfold ReAt at h; obtain ⟨_, _, al, cap, e, _⟩ := h; exact ⟨_, _, _, _, _, al, _, cap, e⟩
theorem leaf_any {ok ok' : Nat → Prop} {w : World} (w' : World) {v : Value} {k : Nat} {s : Ws} (h : ReAt ok w v (.node k s [])) : ReAt ok' w' v (.node k s []) := by
  unfold ReAt at h ⊢; obtain ⟨hk, hs, al, cap, e, h1, h2, _⟩ := h; exact ⟨hk, hs, al, cap, e, h1, h2, Or.inl rfl⟩
def ofR (s : Ws) : Rx := if sameW s Ws.nil = true then .node 1 Ws.nil [] else .node 3 s []
theorem cellsR {w : World} {g : Nat} {x0 x1 x2 x3 x4 x5 : Value} (h : w.heap[g]? = some (.cells #[x0, x1, x2, x3, x4, x5] 39)) :
    w.cell? ⟨g, 0, none⟩ = some x0 ∧ w.cell? ⟨g, 1, none⟩ = some x1 ∧ w.cell? ⟨g, 2, none⟩ = some x2 ∧ w.cell? ⟨g, 3, none⟩ = some x3 ∧ w.cell? ⟨g, 4, none⟩ = some x4 ∧ w.cell? ⟨g, 5, none⟩ = some x5 ∧
      w.frozen? ⟨g, 0, none⟩ = false ∧ w.frozen? ⟨g, 1, none⟩ = false ∧ w.frozen? ⟨g, 2, none⟩ = false ∧ w.frozen? ⟨g, 3, none⟩ = false ∧ w.frozen? ⟨g, 4, none⟩ = false ∧ w.frozen? ⟨g, 5, none⟩ = false := by
  refine ⟨?_, ?_, ?_, ?_, ?_, ?_, Lib.frozen_of_heap h 0, Lib.frozen_of_heap h 1, Lib.frozen_of_heap h 2, Lib.frozen_of_heap h 3, Lib.frozen_of_heap h 4, Lib.frozen_of_heap h 5⟩ <;> (rw [Lib.cell_of_heap h]; rfl)
def putW (w : World) (g : Nat) (y0 y1 y2 y3 y4 y5 : Value) : World := (((((w.setCell ⟨g, 0, none⟩ y0).setCell ⟨g, 1, none⟩ y1).setCell ⟨g, 2, none⟩ y2).setCell ⟨g, 3, none⟩ y3).setCell ⟨g, 4, none⟩ y4).setCell ⟨g, 5, none⟩ y5
theorem putR {w : World} {g : Nat} {x0 x1 x2 x3 x4 x5 : Value} (h : w.heap[g]? = some (.cells #[x0, x1, x2, x3, x4, x5] 39)) (y0 y1 y2 y3 y4 y5 : Value) :
    (putW w g y0 y1 y2 y3 y4 y5).heap[g]? = some (.cells #[y0, y1, y2, y3, y4, y5] 39) := by
  simp [putW, World.setCell, Array.getElem?_modify, h]
theorem putB {w w' : World} {B g : Nat} (h : Below B w w') (hg : B ≤ g) (y0 y1 y2 y3 y4 y5 : Value) : Below B w (putW w' g y0 y1 y2 y3 y4 y5) :=
  (((((h.setCell (p := ⟨g, 0, none⟩) hg _).setCell (p := ⟨g, 1, none⟩) hg _).setCell (p := ⟨g, 2, none⟩) hg _).setCell (p := ⟨g, 3, none⟩) hg _).setCell (p := ⟨g, 4, none⟩) hg _).setCell (p := ⟨g, 5, none⟩) hg _
theorem nil_v : Ws.nil.v = .agg #[.int .u64 0, .int .u64 0, .int .u64 0, .int .u64 0] := rfl
set_option maxHeartbeats 1000000 in
theorem refOfR_any (s : Ws) (w : World) (hs : s.Ok) :
    Calls Tryz.prog 67 #[s.v] w (NewPost (ofR s) w) := by
  by_cases h : sameW s Ws.nil = true
  · (have e : ofR s = .node 1 Ws.nil [] := by simp [ofR, h]); rw [e]; obtain rfl := sameW_iff.1 h; have hq := eqW_yes Ws.nil; rw [nil_v] at hq ⊢; have KB := Lib.hid fun W => bare_any 1 W (by decide); clear h e; go_enter Tryz.func67, Tryz.ntmps67; go_wp2_with fail; refine (KB.out _).mono ?_; rintro e w1 ⟨v, rfl, hv, hb1⟩; obtain ⟨x0, x1, x2, x3, x4, al, n, cap, rfl⟩ := cells_re hv; have hbl : w1.heap[w.heap.size + 1]? = some (.cells #[.int .u8 0, .int .u64 0, .int .u64 0, .int .u64 0, .int .u64 0, .slice none 0 0] 39) := (hb1.block _ (by simp)).trans (blk_at _ _ (by simp)); have hbw : Below w.heap.size w w1 := (((Below.refl _ w).alloc (Nat.le_refl _) _).alloc (by simp) _).trans (hb1.mono (by simp; omega)); have hW2 := putR hbl (.int .u8 x0) (.int .u64 x1) (.int .u64 x2) (.int .u64 x3) (.int .u64 x4) (.slice al n cap); obtain ⟨d0, d1, d2, d3, d4, d5, f0, f1, f2, f3, f4, f5⟩ := cellsR hbl; have HV := Lib.hid hv; have hB := putB hbw (by omega : w.heap.size ≤ w.heap.size + 1) (.int .u8 x0) (.int .u64 x1) (.int .u64 x2) (.int .u64 x3) (.int .u64 x4) (.slice al n cap); unfold putW at hW2 hB; have HB := Lib.hid hB; have HP := Lib.hid hW2; clear hv hb1 hW2 hB; go_wp2; refine ret_re HP.out Tryz.results67 rfl rfl ⟨_, rfl, leaf_any _ HV.out, HB.out⟩
  · (have e : ofR s = .node 3 s [] := by simp [ofR, h]); rw [e]; have hne : s ≠ Ws.nil := fun e => h (sameW_iff.2 e); have hq := eqW_no hne; rw [nil_v] at hq; obtain ⟨a, b, c, d⟩ := s; unfold Ws.v at hq ⊢; clear h e hne; go_enter Tryz.func67, Tryz.ntmps67; go_wp2; refine ret_re (blk_at _ _ (by simp)) Tryz.results67 rfl rfl ⟨_, rfl, ?_, ((Below.refl _ w).alloc (Nat.le_refl _) _).alloc (by simp) _⟩; exact bareAt _ _ 3 ⟨a, b, c, d⟩ (by decide) hs
open Go.RowKit
def greatAllB (l : List Rx) (most : Nat) : Bool := decide (20 < l.length) || l.any fun r => greatB r most
def gaInv (l : List Rx) (most : Nat) (w : World) (y : Value) (wr : World) : Prop := ∃ i : Nat, i ≤ l.length ∧ y = .int .i64 i ∧ (Rx.sizes l ≤ 1000000000 → (l.take i).any (fun r => greatB r most) = false) ∧ Below w.heap.size w wr
def GaPost (l : List Rx) (most : Nat) (w : World) (e : Ending) (w' : World) : Prop := ∃ q : Bool, e = .returned (.bool q) ∧ (q = false → l.length ≤ 20) ∧ (Rx.sizes l ≤ 1000000000 → q = greatAllB l most) ∧ Below w.heap.size w w'
set_option maxHeartbeats 2000000 in
theorem greatAll_any {ok : Nat → Prop} (l : List Rx) (most : Nat) (al : Option Addr) (cap : Nat) (w : World) (h : RowAt ok w al l) (hlen : l.length < 2199023255552) (hmost : most ≤ 1000000) :
    Calls Tryz.prog 21 #[.slice al l.length cap, .int .i64 most] w (GaPost l most w) := by
  have HR := Lib.hid h; clear h
  by_cases h20 : 20 < l.length
  · (have d : decide ((20 : Int) < (l.length : Int)) = true := by simp; omega); have HG := Lib.hid (show greatAllB l most = true from by simp [greatAllB, h20]); go_enter Tryz.func21, Tryz.ntmps21; go_wp2; go_ret; exact ⟨true, rfl, fun h => (by cases h), fun _ => HG.out.symm, Below.refl _ w⟩
  · (have d : decide ((20 : Int) < (l.length : Int)) = false := by simp; omega); have HG := Lib.hid (show greatAllB l most = l.any (fun r => greatB r most) from by simp [greatAllB, h20]); go_enter Tryz.func21, Tryz.ntmps21; go_wp2
    go_loopw [11] (fun y wr => gaInv l most w y wr) (fun y _ => l.length - (intOf y).toNat)
    case atStart => exact ⟨0, Nat.zero_le _, rfl, by simp, Below.refl _ w⟩
    case round =>
      obtain ⟨i, hi, rfl, h1, hb⟩ := hrel; have H1 := Lib.hid h1; clear h1
      by_cases hlt : i < l.length
      · obtain ⟨b, off, hab, hblt, hnode⟩ := HR.out.kid hlt; subst hab; have hkid := NodeAt.below hb _ hblt hnode; have hks := size_kid hlt
        have htk : (l.take (i + 1)).any (fun r => greatB r most) = ((l.take i).any (fun r => greatB r most) || greatB l[i] most) := by
          rw [List.take_succ_eq_append_getElem hlt, List.any_append, List.any_cons, List.any_nil, Bool.or_false]
        have hin : greatB l[i] most = true → l.any (fun r => greatB r most) = true := fun h => List.any_eq_true.2 ⟨l[i], List.getElem_mem hlt, h⟩; have HT := Lib.hid htk; have HI := Lib.hid hin; have HKS := Lib.hid hks; clear htk hin hks; generalize l[i] = kid at *; obtain ⟨k', ⟨ta, tb, tc, td⟩, ks'⟩ := kid; obtain ⟨al', cap', ⟨c0, c1, c2, c3, c4, c5⟩, hre⟩ := hkid.read; have KC := Lib.hid (great_any _ most _ wr hre hmost); simp only at c0 c1 c2 c3 c4 c5; clear hkid hre hnode; go_wp2_with fail; refine KC.out.mono ?_; rintro e w1 ⟨⟨g, rfl, hg⟩, hb1⟩; have HGr := Lib.hid hg; replace hb := hb.trans (hb1.mono hb.size); clear c0 c1 c2 c3 c4 c5 hb1 hg
        cases g
        · go_wp2; refine ⟨⟨i + 1, by omega, by go_num, fun h => ?_, hb⟩, by simp [intOf]; omega⟩; rw [HT.out, H1.out h, ← HGr.out (by have := HKS.out; omega)]; rfl
        · go_wp2; go_ret; refine ⟨true, rfl, fun h => (by cases h), fun h => ?_, hb⟩; rw [HG.out, HI.out (HGr.out (by have := HKS.out; omega)).symm]
      · have he : l.take i = l := List.take_of_length_le (by omega); rw [he] at H1; go_wp2; go_ret; exact ⟨false, rfl, fun _ => (by omega), fun h => (by rw [HG.out, H1.out h]), hb⟩
end Go.Proofs.YthgghaaddankoaaGreatDoor
/- Lemmas of mine. -/
namespace Go.Proofs.YthgghaaddankoaaGreatDoor
theorem cmpN_le {x y : Nat} : cmpN x y ≤ 0 ↔ x ≤ y := by
  unfold cmpN
  split
  · simp; omega
  · split
    · simp; omega
    · simp; omega
def lexI (a b : Int) : Int := if a ≠ 0 then a else b
theorem lexI_le {a b : Int} : lexI a b ≤ 0 ↔ a < 0 ∨ (a = 0 ∧ b ≤ 0) := by unfold lexI; split <;> omega
theorem ordW_lex (s t : Ws) : ordW s t = lexI (cmpN s.a t.a) (lexI (cmpN s.b t.b) (lexI (cmpN s.c t.c) (cmpN s.d t.d))) := by
  have z : ∀ x y : Nat, x ≠ y ↔ cmpN x y ≠ 0 := fun x y => by
    unfold cmpN; split
    · simp; omega
    · split
      · simp; omega
      · simp; omega
  unfold ordW lexI; simp only [z]
theorem ordW_le_trans {s t u : Ws} (h1 : ordW s t ≤ 0) (h2 : ordW t u ≤ 0) : ordW s u ≤ 0 := by
  obtain ⟨a, b, c, d⟩ := s; obtain ⟨a', b', c', d'⟩ := t; obtain ⟨a'', b'', c'', d''⟩ := u; rw [ordW_lex] at *; simp only [lexI_le] at *
  have lt : ∀ x y : Nat, cmpN x y < 0 ↔ x < y := fun x y => by
    unfold cmpN; split
    · simp; omega
    · split
      · simp; omega
      · simp; omega
  have eq : ∀ x y : Nat, cmpN x y = 0 ↔ x = y := fun x y => cmpN_zero; simp only [lt, eq, cmpN_le] at *; omega
mutual
def ordR : Rx → Rx → Int
  | .node k s ks, .node k' s' ks' => lexI (cmpN k k') (lexI (ordW s s') (ordRs ks ks'))
def ordRs : List Rx → List Rx → Int
  | [], [] => 0
  | [], _ :: _ => -1
  | _ :: _, [] => 1
  | a :: l, b :: m => lexI (ordR a b) (ordRs l m)
end
theorem lexI_zero {a b : Int} : lexI a b = 0 ↔ a = 0 ∧ b = 0 := by unfold lexI; split <;> omega
theorem lexI_neg {a b : Int} : lexI (-a) (-b) = - lexI a b := by unfold lexI; split <;> split <;> omega
mutual
theorem ordR_zero : ∀ (a b : Rx), ordR a b = 0 ↔ a = b
  | .node k s ks, .node k' s' ks' => by
    unfold ordR; rw [lexI_zero, lexI_zero, cmpN_zero, ordW_zero, ordRs_zero ks ks', Rx.node.injEq]
theorem ordRs_zero : ∀ (l m : List Rx), ordRs l m = 0 ↔ l = m
  | [], [] => by simp [ordRs]
  | [], _ :: _ => by simp [ordRs]
  | _ :: _, [] => by simp [ordRs]
  | a :: l, b :: m => by
    unfold ordRs; rw [lexI_zero, ordR_zero a b, ordRs_zero l m, List.cons.injEq]
end
mutual
theorem ordR_neg : ∀ (a b : Rx), ordR b a = - ordR a b
  | .node k s ks, .node k' s' ks' => by
    unfold ordR; rw [cmpN_neg k k', ordW_neg s s', ordRs_neg ks ks', lexI_neg, lexI_neg]
theorem ordRs_neg : ∀ (l m : List Rx), ordRs m l = - ordRs l m
  | [], [] => by simp [ordRs]
  | [], _ :: _ => by simp [ordRs]
  | _ :: _, [] => by simp [ordRs]
  | a :: l, b :: m => by
    unfold ordRs; rw [ordR_neg a b, ordRs_neg l m, lexI_neg]
end
theorem lex_chain {a a' a'' b b' b'' : Int} (h1 : lexI a b ≤ 0) (h2 : lexI a' b' ≤ 0) (hle : a ≤ 0 → a' ≤ 0 → a'' ≤ 0) (hz : a'' = 0 → a ≤ 0 → a' ≤ 0 → a = 0 ∧ a' = 0) (hb : a = 0 → a' = 0 → b ≤ 0 → b' ≤ 0 → b'' ≤ 0) : lexI a'' b'' ≤ 0 := by
  rw [lexI_le] at *; (have ha : a ≤ 0 := by omega); (have ha' : a' ≤ 0 := by omega); have := hle ha ha'
  by_cases e : a'' = 0
  · obtain ⟨e1, e2⟩ := hz e ha ha'; exact .inr ⟨e, hb e1 e2 (by omega) (by omega)⟩
  · exact .inl (by omega)
mutual
theorem ordR_trans : ∀ (a b c : Rx), ordR a b ≤ 0 → ordR b c ≤ 0 → ordR a c ≤ 0
  | .node k s ks, .node k' s' ks', .node k'' s'' ks'', h1, h2 => by
    unfold ordR at *; refine lex_chain h1 h2 (fun p q => cmpN_le.2 (Nat.le_trans (cmpN_le.1 p) (cmpN_le.1 q))) (fun z p q => ?_) fun _ _ p q => ?_
    · rw [cmpN_zero] at *; rw [cmpN_le] at p q; rw [cmpN_zero]; omega
    · refine lex_chain p q ordW_le_trans (fun z p q => ?_) fun _ _ p q => ordRs_trans ks ks' ks'' p q; rw [ordW_zero] at z; subst z; have hq : ordW s' s = - ordW s s' := ordW_neg s s'; omega
theorem ordRs_trans : ∀ (l m n : List Rx), ordRs l m ≤ 0 → ordRs m n ≤ 0 → ordRs l n ≤ 0
  | [], _, [], _, _ => by simp [ordRs]
  | [], _, _ :: _, _, _ => by simp [ordRs]
  | _ :: _, [], _, h1, _ => by simp [ordRs] at h1
  | _ :: _, _ :: _, [], _, h2 => by simp [ordRs] at h2
  | a :: l, b :: m, c :: n, h1, h2 => by
    unfold ordRs at *; refine lex_chain h1 h2 (ordR_trans a b c) (fun z p q => ?_) fun _ _ p q => ordRs_trans l m n p q; rw [ordR_zero] at z; subst z; have hq : ordR b a = - ordR a b := ordR_neg a b; omega
end
theorem ordR_self (a : Rx) : ordR a a = 0 := (ordR_zero a a).2 rfl
theorem ordR_antisymm {a b : Rx} (h1 : ordR a b ≤ 0) (h2 : ordR b a ≤ 0) : a = b := by
  have := ordR_neg a b; exact (ordR_zero a b).1 (by omega)
def InOrder (l : List Rx) : Prop := l.Pairwise fun a b => ordR a b ≤ 0
theorem inOrder_unique {l m : List Rx} (hp : l.Perm m) (hl : InOrder l) (hm : InOrder m) : l = m :=
  hp.eq_of_pairwise (fun _ _ _ _ h1 h2 => ordR_antisymm h1 h2) hl hm
def insR (r : Rx) : List Rx → List Rx
  | [] => [r]
  | o :: l => if ordR r o < 0 then r :: o :: l else o :: insR r l
theorem insR_perm (r : Rx) : ∀ l : List Rx, (insR r l).Perm (r :: l)
  | [] => List.Perm.refl _
  | o :: l => by
    unfold insR
    split
    · exact List.Perm.refl _
    · exact ((insR_perm r l).cons o).trans (List.Perm.swap r o l)
theorem insR_order (r : Rx) : ∀ l : List Rx, InOrder l → InOrder (insR r l)
  | [], _ => by simp [insR, InOrder]
  | o :: l, h => by
    unfold InOrder at *; have h' := List.pairwise_cons.1 h; unfold insR
    split
    · rename_i hlt
      refine List.pairwise_cons.2 ⟨fun b hb => ?_, h⟩
      rcases List.mem_cons.1 hb with rfl | hb
      · omega
      · exact ordR_trans r o b (by omega) (h'.1 b hb)
    · rename_i hge
      have hro := ordR_neg r o; refine List.pairwise_cons.2 ⟨fun b hb => ?_, insR_order r l h'.2⟩
      rcases List.mem_cons.1 ((insR_perm r l).mem_iff.1 hb) with rfl | hb
      · omega
      · exact h'.1 b hb
def sortR (l : List Rx) : List Rx := l.foldl (fun m r => insR r m) []
theorem sortR_snoc (l : List Rx) (r : Rx) : sortR (l ++ [r]) = insR r (sortR l) := by simp [sortR]
theorem foldIns_perm : ∀ (l m : List Rx), (l.foldl (fun m r => insR r m) m).Perm (l ++ m)
  | [], m => List.Perm.refl _
  | r :: l, m => by
    refine (foldIns_perm l (insR r m)).trans ?_; exact ((List.Perm.append_left l (insR_perm r m)).trans List.perm_middle)
theorem foldIns_order : ∀ (l m : List Rx), InOrder m → InOrder (l.foldl (fun m r => insR r m) m)
  | [], _, h => h
  | r :: l, m, h => foldIns_order l (insR r m) (insR_order r m h)
theorem sortR_perm (l : List Rx) : (sortR l).Perm l := by simpa [sortR] using foldIns_perm l []
theorem sortR_order (l : List Rx) : InOrder (sortR l) := foldIns_order l [] (by simp [InOrder])
theorem sortR_unique {l m : List Rx} (hp : m.Perm l) (hm : InOrder m) : m = sortR l := inOrder_unique (hp.trans (sortR_perm l).symm) hm (sortR_order l)
def onceFrom : List Rx → List Rx → List Rx
  | out, [] => out
  | out, r :: l => if out.any (fun o => sameR o r) = true then onceFrom out l else onceFrom (out ++ [r]) l
def onceR (l : List Rx) : List Rx := onceFrom [] l
theorem any_same (l : List Rx) (r : Rx) : l.any (fun o => sameR o r) = true ↔ r ∈ l := by
  rw [List.any_eq_true]
  constructor
  · rintro ⟨x, hx, h⟩; rw [(sameR_iff x r).1 h] at hx; exact hx
  · intro h; exact ⟨r, h, (sameR_iff r r).2 rfl⟩
theorem onceFrom_mem : ∀ (l out : List Rx) (x : Rx), x ∈ onceFrom out l ↔ x ∈ out ∨ x ∈ l
  | [], out, x => by simp [onceFrom]
  | r :: l, out, x => by
    unfold onceFrom
    split
    · rename_i h
      rw [any_same] at h; rw [onceFrom_mem l out x]
      constructor
      · rintro (h1 | h1)
        · exact .inl h1
        · exact .inr (List.mem_cons_of_mem _ h1)
      · rintro (h1 | h1)
        · exact .inl h1
        · rcases List.mem_cons.1 h1 with rfl | h1
          · exact .inl h
          · exact .inr h1
    · rw [onceFrom_mem l (out ++ [r]) x]; simp [or_assoc]
theorem onceFrom_nodup : ∀ (l out : List Rx), out.Nodup → (onceFrom out l).Nodup
  | [], out, h => by simpa [onceFrom] using h
  | r :: l, out, h => by
    unfold onceFrom
    split
    · exact onceFrom_nodup l out h
    · rename_i hn
      rw [any_same] at hn; refine onceFrom_nodup l (out ++ [r]) ?_; rw [List.nodup_append]; refine ⟨h, by simp, fun a ha b hb => ?_⟩; simp at hb; subst hb; exact fun e => hn (e ▸ ha)
theorem onceR_mem (l : List Rx) (x : Rx) : x ∈ onceR l ↔ x ∈ l := by simp [onceR, onceFrom_mem]
theorem onceR_nodup (l : List Rx) : (onceR l).Nodup := onceFrom_nodup l [] List.nodup_nil
theorem onceFrom_order : ∀ (l out : List Rx), InOrder (out ++ l) → InOrder (onceFrom out l)
  | [], out, h => by simpa [onceFrom] using h
  | r :: l, out, h => by
    unfold onceFrom
    split
    · refine onceFrom_order l out ?_; unfold InOrder at *; rw [List.pairwise_append] at h ⊢; exact ⟨h.1, (List.pairwise_cons.1 h.2.1).2, fun a ha b hb => h.2.2 a ha b (List.mem_cons_of_mem _ hb)⟩
    · refine onceFrom_order l (out ++ [r]) ?_
      simpa using h
theorem onceR_order {l : List Rx} (h : InOrder l) : InOrder (onceR l) := onceFrom_order l [] (by simpa using h)
theorem sortR_length (l : List Rx) : (sortR l).length = l.length := (sortR_perm l).length_eq
open Go.RowKit
theorem infoR : (Tryz.prog.info? 39).map (fun i => (i.zero, i.size, i.bytes)) = some (some (.agg #[.int .u8 0, .int .u64 0, .int .u64 0, .int .u64 0, .int .u64 0, .slice none 0 0]), 6, 64) := by kernel_rfl
def RowVals (ok : Nat → Prop) (w : World) (xs : List Value) (l : List Rx) : Prop := xs.length = l.length * 6 ∧ ∀ i (h : i < l.length), ∃ c0 c1 c2 c3 c4 c5, (xs[i * 6]? = some c0 ∧ xs[i * 6 + 1]? = some c1 ∧ xs[i * 6 + 2]? = some c2 ∧ xs[i * 6 + 3]? = some c3 ∧ xs[i * 6 + 4]? = some c4 ∧ xs[i * 6 + 5]? = some c5) ∧ ReAt ok w (.agg #[c0, c1, c2, c3, c4, c5]) l[i]
theorem RowVals.nil (ok : Nat → Prop) (w : World) : RowVals ok w [] [] := ⟨rfl, fun _ h => absurd h (Nat.not_lt_zero _)⟩
theorem RowVals.go {ok ok' : Nat → Prop} {w w' : World} {xs : List Value} {l : List Rx} (h : RowVals ok w xs l) (hk : Kept ok ok' w w') : RowVals ok' w' xs l := by
  refine ⟨h.1, fun i hi => ?_⟩; obtain ⟨c0, c1, c2, c3, c4, c5, hc, hr⟩ := h.2 i hi; exact ⟨c0, c1, c2, c3, c4, c5, hc, hr.go hk⟩
theorem RowVals.append {ok : Nat → Prop} {w : World} {xs ys : List Value} {l m : List Rx} (h : RowVals ok w xs l) (h' : RowVals ok w ys m) : RowVals ok w (xs ++ ys) (l ++ m) := by
  refine ⟨by simp [h.1, h'.1]; omega, fun i hi => ?_⟩; have hx := h.1; have hy := h'.1
  by_cases e : i < l.length
  · obtain ⟨c0, c1, c2, c3, c4, c5, ⟨e0, e1, e2, e3, e4, e5⟩, hr⟩ := h.2 i e; rw [List.getElem_append_left e]
    refine ⟨c0, c1, c2, c3, c4, c5, ⟨?_, ?_, ?_, ?_, ?_, ?_⟩, hr⟩ <;> (rw [List.getElem?_append_left (by omega)]; assumption)
  · (have hi' : i - l.length < m.length := by simp at hi; omega); obtain ⟨c0, c1, c2, c3, c4, c5, ⟨e0, e1, e2, e3, e4, e5⟩, hr⟩ := h'.2 (i - l.length) hi'; rw [List.getElem_append_right (by omega)]; refine ⟨c0, c1, c2, c3, c4, c5, ⟨?_, ?_, ?_, ?_, ?_, ?_⟩, hr⟩
    · rw [List.getElem?_append_right (by omega), show i * 6 - xs.length = (i - l.length) * 6 from by omega]; exact e0
    · rw [List.getElem?_append_right (by omega), show i * 6 + 1 - xs.length = (i - l.length) * 6 + 1 from by omega]; exact e1
    · rw [List.getElem?_append_right (by omega), show i * 6 + 2 - xs.length = (i - l.length) * 6 + 2 from by omega]; exact e2
    · rw [List.getElem?_append_right (by omega), show i * 6 + 3 - xs.length = (i - l.length) * 6 + 3 from by omega]; exact e3
    · rw [List.getElem?_append_right (by omega), show i * 6 + 4 - xs.length = (i - l.length) * 6 + 4 from by omega]; exact e4
    · rw [List.getElem?_append_right (by omega), show i * 6 + 5 - xs.length = (i - l.length) * 6 + 5 from by omega]; exact e5
theorem RowVals.one {ok : Nat → Prop} {w : World} {c0 c1 c2 c3 c4 c5 : Value} {r : Rx} (h : ReAt ok w (.agg #[c0, c1, c2, c3, c4, c5]) r) : RowVals ok w [c0, c1, c2, c3, c4, c5] [r] := by
  refine ⟨rfl, fun i hi => ?_⟩; (obtain rfl : i = 0 := by simpa using hi); exact ⟨c0, c1, c2, c3, c4, c5, ⟨rfl, rfl, rfl, rfl, rfl, rfl⟩, h⟩
theorem row_of_own {ok : Nat → Prop} {w : World} {B : Nat} {v : Value} {xs : List Value} {l : List Rx} (h : w.ownsRow B 39 6 v l.length xs) (hv : RowVals ok w xs l) : ∃ al cap, v = .slice al l.length cap ∧ l.length ≤ cap ∧ RowAt (fun b => ok b ∨ B ≤ b) w al l := by
  obtain ⟨_, ⟨rfl, h0⟩ | ⟨g, cap, cur, rfl, hB, hg, hn, hm, hs, ht⟩⟩ := h
  · refine ⟨none, 0, by rw [h0], by omega, .inl (List.eq_nil_of_length_eq_zero h0)⟩
  · refine ⟨_, _, rfl, hn, .inr ⟨g, 0, rfl, (Array.getElem?_eq_some_iff.1 hg).1, .inr hB, nodesAt_of fun i hi => ?_⟩⟩; obtain ⟨c0, c1, c2, c3, c4, c5, ⟨e0, e1, e2, e3, e4, e5⟩, hr⟩ := hv.2 i hi
    have cell : ∀ o x, o < l.length * 6 → xs[o]? = some x → w.cell? ⟨g, o, none⟩ = some x := by
      intro o x ho hx; rw [← ht, List.getElem?_take, if_pos ho] at hx; rw [Lib.cell_of_heap hg, ← Array.getElem?_toList]; exact hx
    rw [show 0 + i * 6 = i * 6 from by omega]; exact node_at (hr.imp fun _ _ h => .inl h) (cell _ _ (by omega) e0) (cell _ _ (by omega) e1) (cell _ _ (by omega) e2) (cell _ _ (by omega) e3) (cell _ _ (by omega) e4) (cell _ _ (by omega) e5)
theorem ownR_ge {w : World} {B : Nat} {v : Value} {n : Nat} {xs : List Value} (h : w.ownsRow B 39 6 v n xs) : ∀ g, v.ownBlock = some g → B ≤ g := by
  intro g hg; obtain ⟨_, ⟨rfl, _⟩ | ⟨g', cap, cur, rfl, hB, _⟩⟩ := h
  · simp [Value.ownBlock] at hg
  · simp [Value.ownBlock] at hg; omega
theorem ownR_below {w w' : World} {B : Nat} {v : Value} {n : Nat} {xs : List Value} (h : w.ownsRow B 39 6 v n xs) (hb : Below w.heap.size w w') : w'.ownsRow B 39 6 v n xs := by
  obtain ⟨h1, h2⟩ := h; refine ⟨h1, ?_⟩
  rcases h2 with h2 | ⟨g, cap, cur, rfl, hB, hg, hr⟩
  · exact .inl h2
  · exact .inr ⟨g, cap, cur, rfl, hB, (hb.block g (Array.getElem?_eq_some_iff.1 hg).1).trans hg, hr⟩
theorem six_cells (w : World) (c0 c1 c2 c3 c4 c5 : Value) : ∀ j u, [c0, c1, c2, c3, c4, c5][j]? = some u → (w.alloc (.cells #[c0, c1, c2, c3, c4, c5] 39)).cell? ((⟨w.heap.size, 0, none⟩ : Addr).add j) = some u := by
  intro j u h; rw [Go.WideShapes.add_plain, Lib.cell_of_heap (blk_new w _)]
  simpa using h
def Lo (B b : Nat) : Prop := b < B
theorem kept_lo {B : Nat} {w w' : World} (_hB : B ≤ w.heap.size) (h : Below B w w') : Kept (Lo B) (Lo B) w w' := ⟨h.size, fun b _ h2 => ⟨h2, h.block b h2⟩⟩
theorem nodes_vals {ok : Nat → Prop} {w : World} {b : Nat} : ∀ (l : List Rx) (off : Nat), NodesAt ok w b off l → ∃ xs, RowVals ok w xs l ∧ (∀ j u, xs[j]? = some u → w.cell? ⟨b, off + j, none⟩ = some u) ∧ ∀ u ∈ xs, u.oneCell' = true
  | [], off, _ => ⟨[], RowVals.nil _ _, fun j u h => by simp at h, fun u h => by cases h⟩
  | .node k s ks :: rs, off, h => by
    unfold NodesAt at h; obtain ⟨al, cap, ⟨c0, c1, c2, c3, c4, c5⟩, hre⟩ := h.1.read; obtain ⟨xs, hv, hc, ho⟩ := nodes_vals rs (off + 6) h.2; refine ⟨[.int .u8 k, .int .u64 s.a, .int .u64 s.b, .int .u64 s.c, .int .u64 s.d, .slice al ks.length cap] ++ xs, (RowVals.one hre).append hv, ?_, ?_⟩
    · intro j u hj
      match j, hj with
      | 0, hj => simp at hj; subst hj; exact c0
      | 1, hj => simp at hj; subst hj; exact c1
      | 2, hj => simp at hj; subst hj; exact c2
      | 3, hj => simp at hj; subst hj; exact c3
      | 4, hj => simp at hj; subst hj; exact c4
      | 5, hj => simp at hj; subst hj; exact c5
      | j + 6, hj =>
        rw [List.getElem?_append_right (by simp)] at hj; have := hc j u (by simpa using hj); rw [show off + (j + 6) = off + 6 + j from by omega]; exact this
    · intro u hu; simp only [List.cons_append, List.nil_append, List.mem_cons] at hu
      rcases hu with rfl | rfl | rfl | rfl | rfl | rfl | hu
      all_goals first | rfl | exact ho u hu
theorem own_nodes {ok : Nat → Prop} {w : World} {B : Nat} {v : Value} {xs : List Value} {l : List Rx} (h : w.ownsRow B 39 6 v l.length xs) (hv : RowVals ok w xs l) (hne : l ≠ []) : ∃ g cap, v = .slice (some ⟨g, 0, none⟩) l.length cap ∧ B ≤ g ∧ g < w.heap.size ∧ l.length ≤ cap ∧ NodesAt ok w g 0 l := by
  obtain ⟨_, ⟨rfl, h0⟩ | ⟨g, cap, cur, rfl, hB, hg, hn, hm, hs, ht⟩⟩ := h
  · exact absurd (List.eq_nil_of_length_eq_zero h0) hne
  · refine ⟨g, cap, rfl, hB, (Array.getElem?_eq_some_iff.1 hg).1, hn, nodesAt_of fun i hi => ?_⟩; obtain ⟨c0, c1, c2, c3, c4, c5, ⟨e0, e1, e2, e3, e4, e5⟩, hr⟩ := hv.2 i hi
    have cell : ∀ o x, o < l.length * 6 → xs[o]? = some x → w.cell? ⟨g, o, none⟩ = some x := by
      intro o x ho hx; rw [← ht, List.getElem?_take, if_pos ho] at hx; rw [Lib.cell_of_heap hg, ← Array.getElem?_toList]; exact hx
    rw [show 0 + i * 6 = i * 6 from by omega]; exact node_at hr (cell _ _ (by omega) e0) (cell _ _ (by omega) e1) (cell _ _ (by omega) e2) (cell _ _ (by omega) e3) (cell _ _ (by omega) e4) (cell _ _ (by omega) e5)
open Go.RowKit
theorem run_append_none {P : Program} {w : World} (base : Nat) (t ty e : TypeId) (i : TypeInfo) (size c : Nat) (ht : P.underlying t = some (.slice e)) (hi : P.info? e = some i)
    (v : Value) (n : Nat) (xs : List Value) (hown : w.ownsRow base e size v n xs) :
    (Builtin.append_ #[t, t] ty #[v, .slice none 0 c]).run P w = .ok v w := by
  rcases hown.2 with ⟨rfl, rfl⟩ | ⟨g, cap, cur, rfl, _, _, hnc, _⟩
  · simp [Builtin.append_, run_underlying ht, sizeOf, typeInfo, hi, Builtin.lenOf, Builtin.firstCells]
  · simp [Builtin.append_, run_underlying ht, sizeOf, typeInfo, hi, Builtin.lenOf, Builtin.firstCells, hnc, storeCells]
theorem row_vals {ok : Nat → Prop} {w : World} {al : Option Addr} {l : List Rx} (h : RowAt ok w al l) : ∃ ys, RowVals ok w ys l ∧ (∀ u ∈ ys, u.oneCell' = true) ∧ ((∃ ad : Addr, al = some ad ∧ ∀ j u, ys[j]? = some u → w.cell? (ad.add j) = some u) ∨ (al = none ∧ l = [])) := by
  rcases h with rfl | ⟨b, off, rfl, _, _, h⟩
  · refine ⟨[], RowVals.nil _ _, (by simp), ?_⟩
    cases al with
    | none => exact .inr ⟨rfl, rfl⟩
    | some ad => exact .inl ⟨ad, rfl, fun j u h => by simp at h⟩
  · obtain ⟨ys, h1, h2, h3⟩ := nodes_vals l off h; exact ⟨ys, h1, h3, .inl ⟨_, rfl, fun j u hj => by rw [Go.WideShapes.add_plain]; exact h2 j u hj⟩⟩
open Go.RowKit
def ActAt (ok : Nat → Prop) (W : World) (b off : Nat) (a : Bool × List Rx) : Prop := W.cell? ⟨b, off, none⟩ = some (.bool a.1) ∧ ∃ al cap, W.cell? ⟨b, off + 1, none⟩ = some (.slice al a.2.length cap) ∧ a.2.length ≤ cap ∧ a.2.length < 2199023255552 ∧ RowAt ok W al a.2
def ActsAt (W : World) (al : Option Addr) (L : List (Bool × List Rx)) : Prop := L = [] ∨ ∃ b off, al = some ⟨b, off, none⟩ ∧ b < W.heap.size ∧ ∀ i (h : i < L.length), ActAt (fun _ => True) W b (off + i * 2) L[i]
theorem ActAt.below {ok : Nat → Prop} {w w' : World} {b off : Nat} {a : Bool × List Rx} (h : ActAt ok w b off a) (hl : b < w.heap.size) (hb : Below w.heap.size w w') : ActAt ok w' b off a := by
  obtain ⟨h0, al, cap, h1, h2, h3, h4⟩ := h; exact ⟨(hb.cell (p := ⟨b, off, none⟩) hl).trans h0, al, cap, (hb.cell (p := ⟨b, off + 1, none⟩) hl).trans h1, h2, h3, h4.below hb⟩
theorem ActsAt.get {w x : World} {al : Option Addr} {L : List (Bool × List Rx)} (h : ActsAt w al L) (hb : Below w.heap.size w x) {i : Nat} (hi : i < L.length) : ∃ b off, al = some ⟨b, off, none⟩ ∧ ActAt (fun b => b < w.heap.size) x b (off + i * 2) L[i] := by
  obtain ⟨b, off, e, hlt, h⟩ := h.resolve_left (fun h => by rw [h] at hi; exact absurd hi (Nat.not_lt_zero _)); obtain ⟨h0, al, cap, h1, h2, h3, h4⟩ := h i hi; exact ⟨b, off, e, (hb.cell (p := ⟨b, off + i * 2, none⟩) hlt).trans h0, al, cap, (hb.cell (p := ⟨b, off + i * 2 + 1, none⟩) hlt).trans h1, h2, h3, (h4.imp fun b hb _ => hb).below hb⟩
open Go.RowKit
def SmallAct (a : Bool × List Rx) : Prop := a.2.length ≤ 10 ∧ ∀ r ∈ a.2, r.size ≤ 60
def SmallActs (L : List (Bool × List Rx)) : Prop := L.length ≤ 40 ∧ ∀ a ∈ L, SmallAct a
def grInv (L : List (Bool × List Rx)) (w : World) (y : Value) (wr : World) : Prop := ∃ i : Nat, i ≤ L.length ∧ y = .int .i64 i ∧ (∀ j (h : j < L.length), j < i → SmallAct L[j]) ∧ Below w.heap.size w wr
def GrPost (L : List (Bool × List Rx)) (w : World) (e : Ending) (w' : World) : Prop := (∃ q, e = .returned (.bool q) ∧ (q = false → SmallActs L)) ∧ Below w.heap.size w w'
theorem small_of {l : List Rx} (hl : l.length ≤ 10) (hs : Rx.sizes l ≤ 1048576) (h : Rx.sizes l ≤ 1000000000 → false = greatAllB l 60) (b : Bool) : SmallAct (b, l) := by
  have h1 := (h (by omega)).symm; unfold greatAllB at h1; simp only [Bool.or_eq_false_iff, decide_eq_false_iff_not, List.any_eq_false] at h1; refine ⟨hl, fun r hr => ?_⟩; have := h1.2 r hr; unfold greatB at this; simp at this; exact this
set_option maxHeartbeats 4000000 in
set_option maxRecDepth 100000 in
theorem great11_any (L : List (Bool × List Rx)) (al : Option Addr) (cap : Nat) (w : World) (hl : L.length < 4398046511104) (hA : ActsAt w al L) (hsz : ∀ a ∈ L, Rx.sizes a.2 ≤ 1048576) :
    Calls Tryz.prog 7 #[.slice al L.length cap] w (GrPost L w) := by
  have HA := Lib.hid hA; have HS := Lib.hid hsz
  by_cases h40 : L.length ≤ 40
  · (have q0 : ¬ (40 : Int) < (L.length : Int) := by omega); clear hA hsz; go_enter Tryz.func7, Tryz.ntmps7; go_wp2_with fail
    go_loopw [3] (fun y wr => grInv L w y wr) (fun y _ => L.length - (intOf y).toNat)
    case atStart => exact ⟨0, Nat.zero_le _, rfl, fun j _ h => absurd h (Nat.not_lt_zero _), Below.refl _ _⟩
    case round =>
      obtain ⟨i, hi, rfl, hn, hb⟩ := hrel; have HN := Lib.hid hn; have HB := Lib.hid hb
      by_cases hlt : i < L.length
      · (have q1 : (i : Int) < (L.length : Int) := by omega); obtain ⟨b, off, hab, hblt, hact⟩ := HA.out.resolve_left (fun h => by rw [h] at hlt; exact absurd hlt (Nat.not_lt_zero _)); subst hab; obtain ⟨c0, al1, cap1, c1, h1, h2, h3⟩ := (hact i hlt).below hblt hb; have hs1 := HS.out _ (List.getElem_mem hlt)
        have hnx : SmallAct L[i] → ∀ j (h : j < L.length), j < i + 1 → SmallAct L[j] := fun hq j hj hji => by
          by_cases e : j = i
          · subst e; exact hq
          · exact HN.out j hj (by omega)
        generalize hact' : L[i] = act at *; obtain ⟨fd, l⟩ := act; simp only at c0 c1 h1 h2 h3 hs1; have HNX := Lib.hid hnx; have KG := Lib.hid (greatAll_any l 60 al1 cap1 wr h3 h2 (by decide)); have HSM := Lib.hid fun (hl10 : l.length ≤ 10) h => small_of hl10 hs1 h fd; clear hn hb hact h1 h3 hs1 hnx hact'
        by_cases h10 : l.length ≤ 10
        · (have q2 : ¬ (10 : Int) < (l.length : Int) := by omega); have HSM1 := Lib.hid (HSM.out h10); clear HSM; go_wp2_with fail; refine KG.out.mono ?_; rintro e w1 ⟨q, rfl, hq1, hq2, hb1⟩; have HB1 := Lib.hid (HB.out.trans (hb1.mono HB.out.size)); have HQ := Lib.hid hq2; clear hb1 hq1 hq2 c0 c1
          cases q with
          | true =>
            go_wp2; go_ret; exact ⟨⟨_, rfl, fun h => by cases h⟩, HB1.out⟩
          | false =>
            have HNN := Lib.hid (HNX.out (HSM1.out HQ.out)); clear HQ HNX HSM1; go_wp2; exact ⟨⟨i + 1, hlt, by go_num, HNN.out, HB1.out⟩, by simp [intOf]; omega⟩
        · (have q2 : (10 : Int) < (l.length : Int) := by omega); clear KG HSM HNX; go_wp2; go_ret; exact ⟨⟨_, rfl, fun h => by cases h⟩, HB.out⟩
      · (have q1 : ¬ (i : Int) < (L.length : Int) := by omega); clear hn hb; go_wp2; go_ret
        exact ⟨⟨_, rfl, fun _ => ⟨h40, fun a ha => by
          obtain ⟨j, hj, rfl⟩ := List.getElem_of_mem ha
          exact HN.out j hj (by omega)⟩⟩, HB.out⟩
  · (have q0 : (40 : Int) < (L.length : Int) := by omega); go_enter Tryz.func7, Tryz.ntmps7; go_wp2; go_ret; exact ⟨⟨_, rfl, fun h => by cases h⟩, Below.refl _ _⟩
end Go.Proofs.YthgghaaddankoaaGreatDoor
