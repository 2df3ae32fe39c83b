/- Lemmas of mine, merged: QPRdrF. -/
import Derived.Deep.RegionWith
import Derived.RegionDies
import Derived.Test.YthgghaaddankoaaGreatDoorQPReadJAll
/- Lemmas of mine. -/
namespace Go.Proofs.YthgghaaddankoaaGreatDoor
open Go.RowKit
theorem pcls_bad {q : Ws} {l r : List UInt8} (h93 : NotAt 93 l) (h : itemR l = .bad r) : PCls q l (.bad r) := by
  cases hs : sgn l with
  | bad r' => rw [item_bad1 hs] at h; cases h; exact .bad1 h93 hs
  | ok b l1 =>
    rcases notAt_or 45 l1 with h45 | ⟨l2, rfl⟩
    · rw [item_one hs h45] at h; cases h
    · cases hs2 : sgn l2 with
      | bad r' => rw [item_bad2 hs hs2] at h; cases h; exact .bad2 h93 hs hs2
      | ok b' l3 =>
        by_cases hl : b' < b
        · rw [item_less hs hs2 hl] at h; cases h; exact .less h93 hs hs2 hl
        · rw [item_range hs hs2 (by omega)] at h; cases h
theorem pcls_ok {l l1 : List UInt8} {t : Ws} (h93 : NotAt 93 l) (h : itemR l = .ok t l1) : (∀ q res, PCls (q.join t) l1 res → PCls q l res) ∧ l1 <:+ l ∧ l1.length < l.length ∧ t.Ok := by
  cases hs : sgn l with
  | bad r' => rw [item_bad1 hs] at h; cases h
  | ok b m =>
    obtain ⟨_, e2, e3⟩ := sgn_ok hs
    rcases notAt_or 45 m with h45 | ⟨l2, rfl⟩
    · rw [item_one hs h45] at h; cases h; exact ⟨fun q res k => .one h93 hs h45 k, e2, e3, rng_ok _ _⟩
    · cases hs2 : sgn l2 with
      | bad r' => rw [item_bad2 hs hs2] at h; cases h
      | ok b' l3 =>
        obtain ⟨_, g2, g3⟩ := sgn_ok hs2
        by_cases hl : b' < b
        · rw [item_less hs hs2 hl] at h; cases h
        · rw [item_range hs hs2 (by omega)] at h; cases h; refine ⟨fun q res k => .range h93 hs hs2 (by omega) k, g2.trans ((List.suffix_cons _ _).trans e2), ?_, rng_ok _ _⟩; simp only [List.length_cons] at e3; omega
def plc (D : Nat) (w : World) : Nat := (intOf ((w.cell? ⟨D, 1, none⟩).getD undef)).toNat
theorem RdB.plc {w : World} {D : Nat} {s : ByteArray} {k : Nat} {vl : Value} (h : RdB w D s k vl) : plc D w = k := by
  unfold Go.Proofs.YthgghaaddankoaaGreatDoor.plc; rw [h.cells.2.1]; simp [intOf]
def ItsPost (D : Nat) (s : ByteArray) (vl : Value) (w : World) (res : PR) (e : Ending) (w' : World) : Prop := But D w.heap.size w w' ∧ match res with
  | .ok ex l1 => ∃ q : Ws, q.Ok ∧ ofS q = ex ∧ e = .returned q.v ∧ RdB w' D s (s.size - l1.length) vl
  | .bad r => e = thr (s.size - r.length)
def itsInv (s : ByteArray) (D : Nat) (vl : Value) (w : World) (res : PR) (wr : World) : Prop := ∃ (k : Nat) (q : Ws), k ≤ s.size ∧ RdB wr D s k vl ∧ Box wr w.heap.size Ws.nil ∧ Box wr (w.heap.size + 1) q ∧ q.Ok ∧ But D w.heap.size w wr ∧ PCls q (tl s k) res
theorem nil_join (q : Ws) (h : q.Ok) : Ws.nil.join q = q := by
  refine Ws.has_ext (Ws.join_ok Ws.nil_ok h) h fun m hm => ?_; simp [Ws.has_join, Ws.has_nil]
theorem two_sets {W : World} {g : Nat} {q t : Ws} (hq : q.Ok) (ht : t.Ok) (h : W.heap[g]? = some (.cells #[.int .u64 q.a, .int .u64 q.b, .int .u64 q.c, .int .u64 q.d, .int .u64 t.a, .int .u64 t.b, .int .u64 t.c, .int .u64 t.d] 37 (0, 0))) :
    Calls Tryz.prog 97 #[.slice (some ⟨g, 0, none⟩) 2 2] W fun e w' => e = .returned (q.join t).v ∧ Below W.heap.size W w' := by
  have hS : SetsAt W (some ⟨g, 0, none⟩) [q, t] := by
    refine ⟨by unfold maxLen; simp, by intro s hs; simp at hs; rcases hs with rfl | rfl <;> assumption, .inr ⟨g, 0, rfl, (Array.getElem?_eq_some_iff.1 h).1, fun i hi => ?_⟩⟩
    match i, hi with
    | 0, _ => refine ⟨?_, ?_, ?_, ?_⟩ <;> (rw [Lib.cell_of_heap h]; rfl)
    | 1, _ => refine ⟨?_, ?_, ?_, ?_⟩ <;> (rw [Lib.cell_of_heap h]; rfl)
  have := join_any (some ⟨g, 0, none⟩) [q, t] 2 W hS; simp only [List.foldl_cons, List.foldl_nil, nil_join q hq] at this; exact this
theorem its_close {s : ByteArray} {D : Nat} {vl : Value} {w : World} {res : PR} {k : Nat} {q : Ws} {W : World} {e : Ending} (h93 : ∃ t, tl s k = 93 :: t) (hr : RdB W D s (k + 1) vl) (hq : q.Ok) (hb : But D w.heap.size w W) (hp : PCls q (tl s k) res) (he : e = .returned q.v) : ItsPost D s vl w res e W := by
  obtain ⟨t, ht⟩ := h93; obtain ⟨hk, htl, _⟩ := pcons ht; rw [ht] at hp; obtain rfl := hp.det (PCls.done q t); refine ⟨hb, q, hq, rfl, he, ?_⟩; rw [← htl, tl_len, show s.size - (s.size - (k + 1)) = k + 1 from by omega]; exact hr
theorem but4 {D g : Nat} {w W : World} (hb : But D w.heap.size w W) (hg : w.heap.size ≤ g) (v0 v1 v2 v3 : Value) : But D w.heap.size w ((((W.setCell ⟨g, 0, none⟩ v0).setCell ⟨g, 1, none⟩ v1).setCell ⟨g, 2, none⟩ v2).setCell ⟨g, 3, none⟩ v3) :=
  ⟨hb.os, hb.tape, hb.output, by simpa [World.setCell] using hb.size, fun b h1 h2 => by
    rw [Below.heap_setCell _ _ _ _ (by show b ≠ g; omega), Below.heap_setCell _ _ _ _ (by show b ≠ g; omega), Below.heap_setCell _ _ _ _ (by show b ≠ g; omega), Below.heap_setCell _ _ _ _ (by show b ≠ g; omega)]
    exact hb.block b h1 h2⟩
theorem RdB.put4 {W : World} {D g : Nat} {s : ByteArray} {k : Nat} {vl : Value} (h : RdB W D s k vl) (hg : D ≠ g) (v0 v1 v2 v3 : Value) : RdB ((((W.setCell ⟨g, 0, none⟩ v0).setCell ⟨g, 1, none⟩ v1).setCell ⟨g, 2, none⟩ v2).setCell ⟨g, 3, none⟩ v3) D s k vl :=
  h.of (by rw [Below.heap_setCell _ _ _ _ hg, Below.heap_setCell _ _ _ _ hg, Below.heap_setCell _ _ _ _ hg, Below.heap_setCell _ _ _ _ hg])
theorem below_al {w w' : World} {o : Obj} (h : Below (w.alloc o).heap.size (w.alloc o) w') : Below w.heap.size w w' := ((Below.refl _ w).alloc (Nat.le_refl _) o).trans (h.mono (by simp))
theorem Box.far4 {W : World} {g h : Nat} {q : Ws} (hx : Box W g q) (hg : g ≠ h) (v0 v1 v2 v3 : Value) : Box ((((W.setCell ⟨h, 0, none⟩ v0).setCell ⟨h, 1, none⟩ v1).setCell ⟨h, 2, none⟩ v2).setCell ⟨h, 3, none⟩ v3) g q :=
  (((hx.far (p := ⟨h, 0, none⟩) hg _).far (p := ⟨h, 1, none⟩) hg _).far (p := ⟨h, 2, none⟩) hg _).far (p := ⟨h, 3, none⟩) hg _
set_option maxHeartbeats 4000000 in
theorem items_any {w : World} {D : Nat} {s : ByteArray} {k : Nat} {vl : Value} (h : RdB w D s k vl) (hs : s.size ≤ 1000000000) (hk : k < s.size) (hv : ∀ y, vl ≠ .int .u8 y) (res : PR) (hres : PCls Ws.nil (tl s (k + 1)) res) :
    Calls Tryz.prog 82 #[.pointer (some ⟨D, 0, none⟩)] w (ItsPost D s vl w res) := by
  have hD := h.lt; (have wk : IntKind.i64.wrap ((k : Int) + 1) = (k : Int) + 1 := by rw [IntKind.wrap_i64]; omega); obtain ⟨c0, c1, c2⟩ := h.cells; obtain ⟨e0, e1, e2⟩ := h.frozen
  have hst : itsInv s D vl w res (((w.setCell ⟨D, 1, none⟩ (.int .i64 ((k : Int) + 1))).alloc (.cells #[.int .u64 0, .int .u64 0, .int .u64 0, .int .u64 0] 37)).alloc (.cells #[.int .u64 0, .int .u64 0, .int .u64 0, .int .u64 0] 37)) := by
    have hb0 : Below (w.setCell ⟨D, 1, none⟩ (.int .i64 ((k : Int) + 1))).heap.size (w.setCell ⟨D, 1, none⟩ (.int .i64 ((k : Int) + 1))) (((w.setCell ⟨D, 1, none⟩ (.int .i64 ((k : Int) + 1))).alloc (.cells #[.int .u64 0, .int .u64 0, .int .u64 0, .int .u64 0] 37)).alloc (.cells #[.int .u64 0, .int .u64 0, .int .u64 0, .int .u64 0] 37)) := ((Below.refl _ _).alloc (Nat.le_refl _) _).alloc (by simp) _; (have hsz : (w.setCell ⟨D, 1, none⟩ (.int .i64 ((k : Int) + 1))).heap.size = w.heap.size := by simp [World.setCell]); have X0 := (Box.zero (w.setCell ⟨D, 1, none⟩ (.int .i64 ((k : Int) + 1)))).alloc (.cells #[.int .u64 0, .int .u64 0, .int .u64 0, .int .u64 0] 37); have X1 := Box.zero ((w.setCell ⟨D, 1, none⟩ (.int .i64 ((k : Int) + 1))).alloc (.cells #[.int .u64 0, .int .u64 0, .int .u64 0, .int .u64 0] 37)); (have hsz1 : ((w.setCell ⟨D, 1, none⟩ (.int .i64 ((k : Int) + 1))).alloc (.cells #[.int .u64 0, .int .u64 0, .int .u64 0, .int .u64 0] 37)).heap.size = w.heap.size + 1 := by simp [World.setCell]); rw [hsz] at X0; rw [hsz1] at X1; exact ⟨k + 1, Ws.nil, by omega, (h.go (k + 1)).below hb0, X0, X1, Ws.nil_ok, ((But.refl _ _ w).set _ _).trans (But.of (hb0.mono (by rw [hsz]; exact Nat.le_refl _))), hres⟩
  have HST := Lib.hid hst; clear h hst hres; go_enter Tryz.func82, Tryz.ntmps82; go_wp2_with fail
  go_loopw [] (fun wr => itsInv s D vl w res wr) (fun wr => s.size - plc D wr)
  case atStart =>
    exact HST.out
  case round =>
    obtain ⟨k', q, hk', hr, hx0, hx1, hq, hb, hp⟩ := hrel; have KF := Lib.hid (front_any hr hs hk'); have HP := Lib.hid hp; have HR := Lib.hid hr; have HX0 := Lib.hid hx0; have HX1 := Lib.hid hx1; have HB := Lib.hid hb; clear hp hr hx0 hx1 hb c0 c1 c2 e0 e1 e2 wk
    rcases notAt_or 93 (tl s k') with h93 | ⟨t, h93⟩
    · have d1 : ((frS (tl s k')).toList == [93]) = false := by
        cases hl : tl s k' with
        | nil => rw [Go.ByteArray.toList_eq]; rfl
        | cons c t =>
          rw [(frS_one c t).list]; simp; exact fun e => h93 t (by rw [hl, e])
      have KI := Lib.hid fun W (h : RdB W D s k' vl) => item_any h hs hk' hv; have hDl := HR.out.lt
      cases hit : itemR (tl s k') with
      | bad r =>
        obtain rfl := HP.out.det (pcls_bad h93 hit); rw [hit] at KI; clear h93 hit; generalize frS (tl s k') = f at *; go_wp2_with fail; refine KF.out.mono ?_; rintro e w1 ⟨rfl, hb1⟩; have HR1 := Lib.hid (HR.out.below hb1); have hx1 := HX1.out.below hb1 HX1.out.lt; have BT1 := Lib.hid (but_trans HB.out (But.of hb1)); clear hb1; obtain ⟨qa, qb, qc, qd⟩ := q; obtain ⟨⟨b0, b1, b2, b3⟩, g0, g1, g2, g3⟩ := hx1.all; simp only at b0 b1 b2 b3; go_wp2_with fail
        go_region_dies
        all_goals
          go_wp2_with fail; refine (KI.out _ (HR1.out.below (Below.refl _ _).drew)).mono ?_; rintro e wa ⟨hba, he⟩; simp only at he; subst he; exact ⟨rfl, but_trans (but_trans BT1.out (But.of (Below.refl _ _).drew)) hba, rfl⟩
      | ok t l1 =>
        obtain ⟨hcl, hsuf, hll, htk⟩ := pcls_ok h93 hit; obtain ⟨k1, hk1, hpos1, hl1, hln1⟩ := lpos hsuf; obtain ⟨res', hres'⟩ := PCls.total _ (q.join t) l1 (Nat.le_refl _); obtain rfl := HP.out.det (hcl q res' hres'); rw [tl_len] at hll; rw [hl1] at hres'; have HN := Lib.hid hres'; rw [hit] at KI; have hjk : (q.join t).Ok := Ws.join_ok hq htk; have KJ := Lib.hid fun W g => two_sets (W := W) (g := g) hq htk; clear h93 hit hcl hsuf hl1 hres'; generalize frS (tl s k') = f at *; generalize q.join t = j at *; go_wp2_with fail; refine KF.out.mono ?_; rintro e w1 ⟨rfl, hb1⟩; have HR1 := Lib.hid (HR.out.below hb1); have hx1 := HX1.out.below hb1 HX1.out.lt; have HX0 := Lib.hid (HX0.out.below hb1 HX0.out.lt); have BT1 := Lib.hid (but_trans HB.out (But.of hb1)); clear hb1; obtain ⟨qa, qb, qc, qd⟩ := q; obtain ⟨ta, tb, tc, td⟩ := t; obtain ⟨ja, jb, jc, jd⟩ := j; have HX1' := Lib.hid hx1; obtain ⟨⟨b0, b1, b2, b3⟩, g0, g1, g2, g3⟩ := hx1.all; simp only at b0 b1 b2 b3; have hl0 := HX0.out.lt; have hl1' := HX1'.out.lt; unfold Ws.v at KJ; simp only at KJ; clear hx1; go_wp2_with fail
        go_region_with (first
          | (go_at_call 108; (with_reducible refine (KI.out _ (HR1.out.below (Below.refl _ _).drew)).mono ?_); (rintro e wa ⟨hba, he, hra⟩); (subst he); (unfold Ws.v); (simp only); (have hxa : Box wa (w.heap.size + 1) ⟨qa, qb, qc, qd⟩ := (hba.block _ hl1' (by omega)).trans HX1'.out); (obtain ⟨⟨b0', b1', b2', b3'⟩, -⟩ := hxa.all); (simp only at b0' b1' b2' b3'))
          | (go_at_call 97; (refine (KJ.out _ _ (blk_at _ _ rfl)).mono ?_); (rintro e wb ⟨rfl, hbb⟩); (have hbc := below_al hbb); (have hxb := hxa.below hbc hxa.lt); (obtain ⟨⟨d0, d1, d2, d3⟩, e0, e1, e2, e3⟩ := hxb.all); (simp only at d0 d1 d2 d3))
          | fail)
        all_goals
          go_wp2; have hx0a : Box wa w.heap.size Ws.nil := (hba.block _ hl0 (by omega)).trans HX0.out; have BTa := but_trans (but_trans BT1.out (But.of (Below.refl _ _).drew)) hba; rw [hpos1] at hra; have hrb := hra.below hbc; refine ⟨⟨k1, ⟨ja, jb, jc, jd⟩, hk1, hrb.put4 (by omega) _ _ _ _, (hx0a.below hbc hx0a.lt).far4 (by omega) _ _ _ _, hxb.put4 _ _ _ _, hjk, but4 (but_trans BTa (But.of hbc)) (by omega) _ _ _ _, HN.out⟩, ?_⟩; rw [(hrb.put4 (show D ≠ w.heap.size + 1 from by omega) _ _ _ _).plc, HR.out.plc]; omega
    · (have d1 : ((frS (tl s k')).toList == [93]) = true := by rw [h93, (frS_one 93 t).list]; rfl); obtain ⟨hk1, _, _⟩ := pcons h93; (have wk : IntKind.i64.wrap ((k' : Int) + 1) = (k' : Int) + 1 := by rw [IntKind.wrap_i64]; omega); have H93 := Lib.hid h93; clear h93; generalize frS (tl s k') = f at *; go_wp2_with fail; refine KF.out.mono ?_; rintro e w1 ⟨rfl, hb1⟩; have hr1 := HR.out.below hb1; have hx1 := HX1.out.below hb1 HX1.out.lt; have hx0 := HX0.out.below hb1 HX0.out.lt; have BT1 := Lib.hid (but_trans HB.out (But.of hb1)); clear hb1; obtain ⟨qa, qb, qc, qd⟩ := q; obtain ⟨c0, c1, c2⟩ := hr1.cells; obtain ⟨e0, e1, e2⟩ := hr1.frozen; obtain ⟨⟨b0, b1, b2, b3⟩, g0, g1, g2, g3⟩ := hx1.all; obtain ⟨⟨a0, a1, a2, a3⟩, f0, f1, f2, f3⟩ := hx0.all; simp only [Ws.nil] at a0 a1 a2 a3; simp only at b0 b1 b2 b3; (have hn1 : ¬ D = w.heap.size := by omega); (have hn2 : ¬ D = w.heap.size + 1 := by omega); go_wp2; exact ret_box ((hx0.far (p := ⟨D, 1, none⟩) (show w.heap.size ≠ D from by omega) _).put4 _ _ _ _) Tryz.results82 rfl rfl (its_close ⟨t, H93.out⟩ ((hr1.go (k' + 1)).put4 (by omega) _ _ _ _) hq (but4 (BT1.out.set _ _) (Nat.le_refl _) _ _ _ _) HP.out rfl)
end Go.Proofs.YthgghaaddankoaaGreatDoor
