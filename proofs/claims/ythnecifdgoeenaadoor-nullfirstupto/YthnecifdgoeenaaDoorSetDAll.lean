/- Lemmas of mine, merged: SetD, SetG, SetE, SetF, SetRg. -/
import Derived.StillTailTactics
import Derived.IntWalk
import Derived.Test.YthnecifdgoeenaaDoorSetCAll
import Derived.Deep.QuietTactic
import Derived.BigQuiet
import Derived.RegionTactic
import Derived.Test.YthnecifdgoeenaaDoorSetAAll
import Derived.LoopN
/- The document's Of; set.Range and the document's. -/
namespace Go.Proofs.YthnecifdgoeenaaDoor
open Go.RowKit
end Go.Proofs.YthnecifdgoeenaaDoor
/- Both Orders. -/
namespace Go.Proofs.YthnecifdgoeenaaDoor
open Go.RowKit
theorem ord_at {s t : Ws} {k : Nat} {c : Int} (hk : k < 4) (h : ∀ j, j < k → s.get j = t.get j) (hc : cmpN (s.get k) (t.get k) = c) (h0 : c ≠ 0) : ordW s t = c := by
  obtain ⟨a, b, c', d⟩ := s
  obtain ⟨a', b', c'', d'⟩ := t
  have hne : (Ws.get ⟨a, b, c', d⟩ k) ≠ Ws.get ⟨a', b', c'', d'⟩ k := by
    intro e; rw [e] at hc; exact h0 (hc.symm.trans (cmpN_zero.2 rfl))
  subst hc
  have hq : k = 0 ∨ k = 1 ∨ k = 2 ∨ k = 3 := by omega
  rcases hq with rfl | rfl | rfl | rfl
  · simp [Ws.get] at hne; simp [ordW, Ws.get, hne]
  · have e0 := h 0 (by decide)
    simp [Ws.get] at hne e0; simp [ordW, Ws.get, hne, e0]
  · have e0 := h 0 (by decide); have e1 := h 1 (by decide)
    simp [Ws.get] at hne e0 e1; simp [ordW, Ws.get, hne, e0, e1]
  · have e0 := h 0 (by decide); have e1 := h 1 (by decide); have e2 := h 2 (by decide)
    simp [Ws.get] at hne e0 e1 e2; simp [ordW, Ws.get, e0, e1, e2]
theorem ord_all {s t : Ws} (h : ∀ j, j < 4 → s.get j = t.get j) : ordW s t = 0 := (ordW_zero s t).2 (Ws.get_ext h)
theorem cmpN_cases (x y : Nat) : cmpN x y = 0 ∨ cmpN x y = -1 ∨ cmpN x y = 1 := by unfold cmpN; split <;> (try split) <;> simp
theorem cmpN_lt {x y : Nat} (h : cmpN x y = -1) : x < y := by unfold cmpN at h; split at h <;> (try split at h) <;> first | assumption | omega
theorem cmpN_gt {x y : Nat} (h : cmpN x y = 1) : y < x := by unfold cmpN at h; split at h <;> (try split at h) <;> first | assumption | omega
theorem get_step {s t : Ws} {k : Nat} (h : ∀ j, j < k → s.get j = t.get j) (e : s.get k = t.get k) : ∀ j, j < k + 1 → s.get j = t.get j := by
  intro j hj
  by_cases h1 : j = k
  · rw [h1]; exact e
  · exact h j (by omega)
def ordInv (s t : Ws) (w : World) (i : Value) (wr : World) : Prop := ∃ k : Nat, k ≤ 4 ∧ i = .int .i64 k ∧ (∀ j, j < k → s.get j = t.get j) ∧ Box wr w.heap.size s ∧ Box wr (w.heap.size + 1) t ∧ Below w.heap.size w wr
theorem below_drewN {B : Nat} {w w' : World} (h : Below B w w') (n : Nat) : Below B w (w'.drewN n) := ⟨h.os, h.tape, h.output, h.size, h.block⟩
end Go.Proofs.YthnecifdgoeenaaDoor
/- set.Less, set.Join, set.Meet. -/
namespace Go.Proofs.YthnecifdgoeenaaDoor
open Go.RowKit
/-- A slice of sets that was there. -/
def SetsAt (w : World) (a : Option Addr) (l : List Ws) : Prop :=
  l.length ≤ maxLen ∧ (∀ s ∈ l, s.Ok) ∧ (l = [] ∨ ∃ b off, a = some ⟨b, off, none⟩ ∧ b < w.heap.size ∧ ∀ i (h : i < l.length), w.cell? ⟨b, off + i * 4, none⟩ = some (.int .u64 l[i].a) ∧ w.cell? ⟨b, off + i * 4 + 1, none⟩ = some (.int .u64 l[i].b) ∧ w.cell? ⟨b, off + i * 4 + 2, none⟩ = some (.int .u64 l[i].c) ∧ w.cell? ⟨b, off + i * 4 + 3, none⟩ = some (.int .u64 l[i].d))
theorem SetsAt.below {w w' : World} {a : Option Addr} {l : List Ws} (h : SetsAt w a l) (hb : Below w.heap.size w w') : SetsAt w' a l := by
  obtain ⟨h2, ho, h3⟩ := h
  refine ⟨h2, ho, ?_⟩
  rcases h3 with h3 | ⟨b, off, rfl, hlt, hc⟩
  · exact .inl h3
  · refine .inr ⟨b, off, rfl, Nat.lt_of_lt_of_le hlt hb.size, fun i h => ?_⟩
    rw [hb.cell (p := ⟨b, off + i * 4, none⟩) hlt, hb.cell (p := ⟨b, off + i * 4 + 1, none⟩) hlt, hb.cell (p := ⟨b, off + i * 4 + 2, none⟩) hlt, hb.cell (p := ⟨b, off + i * 4 + 3, none⟩) hlt]
    exact hc i h
/-- The element of a slice of sets that a round reads. -/
theorem SetsAt.elem {w w' : World} {a : Option Addr} {l : List Ws} (h : SetsAt w a l) (hb : Below w.heap.size w w') {k : Nat} (hk : k < l.length) :
    ∃ b off s, a = some ⟨b, off, none⟩ ∧ b < w.heap.size ∧ l[k]? = some s ∧ s.Ok ∧ w'.cell? ⟨b, off + k * 4, none⟩ = some (.int .u64 s.a) ∧ w'.cell? ⟨b, off + k * 4 + 1, none⟩ = some (.int .u64 s.b) ∧ w'.cell? ⟨b, off + k * 4 + 2, none⟩ = some (.int .u64 s.c) ∧ w'.cell? ⟨b, off + k * 4 + 3, none⟩ = some (.int .u64 s.d) := by
  obtain ⟨_, ho, h3⟩ := h.below hb
  obtain ⟨_, _, h3'⟩ := h
  rcases h3 with h3 | ⟨b, off, rfl, _, hc⟩
  · subst h3; simp at hk
  · rcases h3' with h3' | ⟨b', off', he, hlt, _⟩
    · subst h3'; simp at hk
    · injection he with he; injection he with he1 he2; subst he1; subst he2
      exact ⟨b, off, l[k], rfl, hlt, List.getElem?_eq_getElem hk, ho _ (List.getElem_mem hk), hc k hk⟩
def foldInv (f : Ws → Ws → Ws) (z : Ws) (l : List Ws) (w : World) (g : Nat) (i : Value) (wr : World) : Prop := ∃ (k : Nat) (s : Ws), k ≤ l.length ∧ s = (l.take k).foldl f z ∧ i = .int .i64 k ∧ Box wr w.heap.size Ws.nil ∧ Box wr g s ∧ Below w.heap.size w wr
theorem fold_take {f : Ws → Ws → Ws} {z : Ws} {l : List Ws} {k : Nat} {s : Ws} (h : l[k]? = some s) : (l.take (k + 1)).foldl f z = f ((l.take k).foldl f z) s := by
  rw [List.take_add_one, h]; simp
theorem fold_ok {f : Ws → Ws → Ws} (hf : ∀ s t : Ws, s.Ok → t.Ok → (f s t).Ok) {z : Ws} (hz : z.Ok) {l : List Ws} (hl : ∀ s ∈ l, s.Ok) : (l.foldl f z).Ok := by
  induction l generalizing z with
  | nil => exact hz
  | cons x t ih => exact ih (hf _ _ hz (hl x (List.mem_cons_self ..))) fun s hs => hl s (List.mem_cons_of_mem _ hs)
set_option maxHeartbeats 1000000 in
theorem join_any (a : Option Addr) (l : List Ws) (cap : Nat) (w : World) (h : SetsAt w a l) :
    Calls Tryd.prog 33 #[.slice a l.length cap] w fun e w' => e = .returned (l.foldl Ws.join Ws.nil).v ∧ Below w.heap.size w w' := by
  have hS := Lib.hid h
  have hl := h.1
  unfold maxLen at hl
  clear h
  have i0 := idx0; have i1 := idx1; have i2 := idx2; have i3 := idx3
  go_enter Tryd.func33, Tryd.ntmps33
  go_wp2
  go_loopw [10] (fun i wr => foldInv Ws.join Ws.nil l w (w.heap.size + 1) i wr) (fun i _ => l.length - (intOf i).toNat)
  case atStart =>
    refine ⟨0, Ws.nil, Nat.zero_le _, rfl, rfl, (Box.zero w).alloc _, ?_, ((Below.refl _ w).alloc (Nat.le_refl _) _).alloc (by simp) _⟩
    have := Box.zero (w.alloc (.cells #[.int .u64 0, .int .u64 0, .int .u64 0, .int .u64 0] 24))
    simpa using this
  case round =>
    obtain ⟨k, s, hk, hs, rfl, hr, hB, hb⟩ := hrel
    have hsz := hb.size
    have hbs := hB.lt
    have hok : s.Ok := by
      rw [hs]
      exact fold_ok (fun s t hs ht => Ws.join_ok hs ht) Ws.nil_ok fun s hs => hS.out.2.1 s (List.mem_of_mem_take hs)
    have HS := Lib.hid hs
    clear hs
    obtain ⟨sa, sb, sc, sd⟩ := s
    obtain ⟨h0, h1, h2, h3⟩ := hok
    simp only at h0 h1 h2 h3
    by_cases hlt : k < l.length
    · obtain ⟨b, off, t, hab, hblt, hlk, htk, z0, z1, z2, z3⟩ := hS.out.elem hb hlt
      obtain ⟨ta, tb, tc, td⟩ := t
      obtain ⟨k0, k1, k2, k3⟩ := htk
      simp only at k0 k1 k2 k3
      subst hab
      have e0 := Lib.hid (u64_or_nat sa ta h0 k0)
      have e1 := Lib.hid (u64_or_nat sb tb h1 k1)
      have e2 := Lib.hid (u64_or_nat sc tc h2 k2)
      have e3 := Lib.hid (u64_or_nat sd td h3 k3)
      have hn : (l.take (k + 1)).foldl Ws.join Ws.nil = (Ws.mk sa sb sc sd).join ⟨ta, tb, tc, td⟩ := by rw [fold_take hlk, HS.out]
      have HN := Lib.hid hn
      clear hn hlk HS
      obtain ⟨⟨c0, c1, c2, c3⟩, f0, f1, f2, f3⟩ := hB.all
      simp only at c0 c1 c2 c3 z0 z1 z2 z3
      go_wp2
      refine wp_loop_rounds 5 ?_
      rw [rounds_succ]
      go_wp2
      rw [rounds_succ]
      go_wp2
      rw [rounds_succ]
      go_wp2
      rw [rounds_succ]
      go_wp2
      rw [rounds_succ]
      go_wp2
      rw [e0.out, e1.out, e2.out, e3.out]
      refine ⟨⟨k + 1, _, by omega, HN.out.symm, by go_num, ?_, (hB.put4 _ _ _ _).alloc _, (below_put hb (by omega) _ _ _ _).alloc (by simp; omega) _⟩, by simp [intOf]; omega⟩
      exact ((((hr.far (by simp) _).far (by simp) _).far (by simp) _).far (by simp) _).alloc _
    · have he : l.take k = l := List.take_of_length_le (by omega)
      rw [he] at HS
      clear he
      obtain ⟨⟨c0, c1, c2, c3⟩, f0, f1, f2, f3⟩ := hB.all
      obtain ⟨⟨d0, d1, d2, d3⟩, g0, g1, g2, g3⟩ := hr.all
      simp only [Ws.nil] at d0 d1 d2 d3
      go_wp2
      exact ret_box (hr.put4 _ _ _ _) Tryd.results33 rfl rfl ⟨by rw [← HS.out], below_put hb (Nat.le_refl _) _ _ _ _⟩
end Go.Proofs.YthnecifdgoeenaaDoor
/- The document's Join and Meet; both Orders. -/
namespace Go.Proofs.YthnecifdgoeenaaDoor
open Go.RowKit
/-- Some bytes put into a set, if they are asked for. -/
def pick (p : Nat → Bool) (z : Ws) (k : Nat) : Ws := (List.range k).foldl (fun s n => if p n = true then s.ins n else s) z
theorem pick_succ (p : Nat → Bool) (z : Ws) (k : Nat) : pick p z (k + 1) = if p k = true then (pick p z k).ins k else pick p z k := by
  unfold pick; rw [List.range_succ, List.foldl_append]; rfl
theorem pick_ok (p : Nat → Bool) {z : Ws} (hz : z.Ok) (k : Nat) : (pick p z k).Ok := by
  induction k with
  | zero => exact hz
  | succ k ih => rw [pick_succ]; split
                 · exact Ws.ins_ok ih k
                 · exact ih
theorem pick_has (p : Nat → Bool) (z : Ws) (k : Nat) (hk : k ≤ 256) (m : Nat) (hm : m < 256) : (pick p z k).has m = (z.has m || (decide (m < k) && p m)) := by
  induction k with
  | zero => simp [pick]
  | succ k ih =>
    rw [pick_succ]
    have ih := ih (by omega)
    split
    · rename_i h
      rw [Ws.has_ins _ _ _ (by omega) hm, ih]
      by_cases e : k = m
      · subst e; simp [h]
      · have : decide (m < k + 1) = decide (m < k) := by rw [decide_eq_decide]; omega
        simp [e, this]
    · rename_i h
      rw [ih]
      by_cases e : k = m
      · subst e; simp [h]
      · have : decide (m < k + 1) = decide (m < k) := by rw [decide_eq_decide]; omega
        rw [this]
theorem pick_join {s t : Ws} (hs : s.Ok) (ht : t.Ok) : pick t.has s 256 = s.join t := by
  apply Ws.has_ext (pick_ok _ hs 256) (Ws.join_ok hs ht)
  intro n hn
  rw [pick_has _ _ _ (Nat.le_refl _) n hn, Ws.has_join]
  simp [hn]
def meetP (s t : Ws) (q : Bool) (n : Nat) : Bool := s.has n && (t.has n == q)
theorem pick_meet {s : Ws} (hs : s.Ok) (t : Ws) : pick (meetP s t true) Ws.nil 256 = s.meet t := by
  apply Ws.has_ext (pick_ok _ Ws.nil_ok 256) (Ws.meet_ok hs t)
  intro n hn
  rw [pick_has _ _ _ (Nat.le_refl _) n hn, Ws.has_meet, Ws.has_nil]
  simp [hn, meetP]
theorem pick_less {s t : Ws} (hs : s.Ok) (ht : t.Ok) : pick (meetP s t false) Ws.nil 256 = s.less t := by
  apply Ws.has_ext (pick_ok _ Ws.nil_ok 256) (Ws.less_ok hs t)
  intro n hn
  rw [pick_has _ _ _ (Nat.le_refl _) n hn, Ws.has_less _ _ ht, Ws.has_nil]
  simp [hn, meetP]
/-- Four blocks: both arguments', the result's, the set's that is made. -/
def pickInv (p : Nat → Bool) (z s t : Ws) (w : World) (i : Value) (wr : World) : Prop := ∃ (k : Nat) (u : Ws), k ≤ 256 ∧ u = pick p z k ∧ i = .int .i64 k ∧ Box wr w.heap.size s ∧ Box wr (w.heap.size + 1) t ∧ Box wr (w.heap.size + 1 + 1) Ws.nil ∧ Box wr (w.heap.size + 1 + 1 + 1) u ∧ Below w.heap.size w wr
set_option maxHeartbeats 2000000 in
theorem refJoin_any (s t : Ws) (w : World) (hs : s.Ok) (ht : t.Ok) :
    Calls Tryd.prog 41 #[s.v, t.v] w fun e w' => e = .returned (s.join t).v ∧ Below w.heap.size w w' := by
  rw [← pick_join hs ht]
  obtain ⟨a, b, c, d⟩ := s
  obtain ⟨a', b', c', d'⟩ := t
  unfold Ws.v
  go_enter Tryd.func41, Tryd.ntmps41
  go_wp2
  go_loopw [6] (fun i wr => pickInv (Ws.has ⟨a', b', c', d'⟩) ⟨a, b, c, d⟩ ⟨a, b, c, d⟩ ⟨a', b', c', d'⟩ w i wr) (fun i _ => 256 - (intOf i).toNat)
  case atStart =>
    refine ⟨0, ⟨a, b, c, d⟩, Nat.zero_le _, rfl, rfl, (((Box.new4 w _ _ _ _).alloc _).alloc _).alloc _, ?_, ?_, ?_, ((((Below.refl _ w).alloc (Nat.le_refl _) _).alloc (by simp) _).alloc (by simp; omega) _).alloc (by simp; omega) _⟩
    · have := ((Box.new4 (w.alloc (.cells #[.int .u64 a, .int .u64 b, .int .u64 c, .int .u64 d] 24)) a' b' c' d').alloc (.cells #[.int .u64 0, .int .u64 0, .int .u64 0, .int .u64 0] 24)).alloc (.cells #[.int .u64 a, .int .u64 b, .int .u64 c, .int .u64 d] 24)
      simpa using this
    · have := (Box.zero ((w.alloc (.cells #[.int .u64 a, .int .u64 b, .int .u64 c, .int .u64 d] 24)).alloc (.cells #[.int .u64 a', .int .u64 b', .int .u64 c', .int .u64 d'] 24))).alloc (.cells #[.int .u64 a, .int .u64 b, .int .u64 c, .int .u64 d] 24)
      simpa using this
    · have := Box.new4 (((w.alloc (.cells #[.int .u64 a, .int .u64 b, .int .u64 c, .int .u64 d] 24)).alloc (.cells #[.int .u64 a', .int .u64 b', .int .u64 c', .int .u64 d'] 24)).alloc (.cells #[.int .u64 0, .int .u64 0, .int .u64 0, .int .u64 0] 24)) a b c d
      simpa using this
  case round =>
    obtain ⟨k, u, hk, hu, rfl, hx, hy, hr, hB, hb⟩ := hrel
    have hsz := hb.size
    have hbs := hB.lt
    have hok : u.Ok := by rw [hu]; exact pick_ok _ hs _
    have HU := Lib.hid hu
    clear hu
    obtain ⟨ua, ub, uc, ud⟩ := u
    by_cases hlt : k < 256
    · have hn := pick_succ (Ws.has ⟨a', b', c', d'⟩) ⟨a, b, c, d⟩ k
      rw [← HU.out] at hn
      obtain ⟨⟨c0, c1, c2, c3⟩, f0, f1, f2, f3⟩ := hy.all
      have hlt' : (k : Int) < 256 := by omega
      by_cases hh : Ws.has ⟨a', b', c', d'⟩ k = true
      · rw [if_pos hh] at hn
        have HN := Lib.hid hn
        have HH := Lib.hid hh
        clear hn hh HU
        go_wp2_with fail
        refine (refHas_any ⟨a', b', c', d'⟩ k _ ht hlt).mono ?_
        rw [HH.out]
        rintro e w1 ⟨rfl, hb1⟩
        replace hx := hx.below hb1 (by omega)
        replace hy := hy.below hb1 (by omega)
        replace hr := hr.below hb1 (by omega)
        replace hB := hB.below hb1 hbs
        replace hb := hb.trans (hb1.mono hsz)
        replace hbs := hB.lt
        replace hsz := hb.size
        clear c0 c1 c2 c3 f0 f1 f2 f3 hb1
        obtain ⟨⟨c0, c1, c2, c3⟩, f0, f1, f2, f3⟩ := hB.all
        go_wp2_with fail
        refine (refWith_any ⟨ua, ub, uc, ud⟩ k _ hok hlt).mono ?_
        rintro e w2 ⟨rfl, hb1⟩
        replace hx := hx.below hb1 (by omega)
        replace hy := hy.below hb1 (by omega)
        replace hr := hr.below hb1 (by omega)
        replace hB := hB.below hb1 hbs
        replace hb := hb.trans (hb1.mono hsz)
        clear c0 c1 c2 c3 f0 f1 f2 f3 hb1
        obtain ⟨⟨c0, c1, c2, c3⟩, f0, f1, f2, f3⟩ := hB.all
        generalize (Ws.mk ua ub uc ud).ins k = s' at *
        obtain ⟨va, vb, vc, vd⟩ := s'
        unfold Ws.v
        go_wp2
        have n1 : w.heap.size ≠ w.heap.size + 1 + 1 + 1 := by omega
        have n2 : w.heap.size + 1 ≠ w.heap.size + 1 + 1 + 1 := by omega
        have n3 : w.heap.size + 1 + 1 ≠ w.heap.size + 1 + 1 + 1 := by omega
        refine ⟨⟨k + 1, ⟨va, vb, vc, vd⟩, by omega, HN.out.symm, by go_num, ?_, ?_, ?_, hB.put4 _ _ _ _, below_put hb (by omega) _ _ _ _⟩, by simp [intOf]; omega⟩
        · exact (((hx.far n1 _).far n1 _).far n1 _).far n1 _
        · exact (((hy.far n2 _).far n2 _).far n2 _).far n2 _
        · exact (((hr.far n3 _).far n3 _).far n3 _).far n3 _
      · rw [if_neg hh] at hn
        have hh' : Ws.has ⟨a', b', c', d'⟩ k = false := by simpa using hh
        have HN := Lib.hid hn
        have HH := Lib.hid hh'
        clear hn hh hh' HU
        go_wp2_with fail
        refine (refHas_any ⟨a', b', c', d'⟩ k _ ht hlt).mono ?_
        rw [HH.out]
        rintro e w1 ⟨rfl, hb1⟩
        go_wp2
        exact ⟨⟨k + 1, ⟨ua, ub, uc, ud⟩, by omega, HN.out.symm, by go_num, hx.below hb1 (by omega), hy.below hb1 (by omega), hr.below hb1 (by omega), hB.below hb1 hbs, hb.trans (hb1.mono hsz)⟩, by simp [intOf]; omega⟩
    · obtain rfl : k = 256 := by omega
      obtain ⟨⟨c0, c1, c2, c3⟩, f0, f1, f2, f3⟩ := hB.all
      obtain ⟨⟨d0, d1, d2, d3⟩, g0, g1, g2, g3⟩ := hr.all
      simp only [Ws.nil] at d0 d1 d2 d3
      go_wp2
      exact ret_box (hr.put4 _ _ _ _) Tryd.results41 rfl rfl ⟨by rw [← HU.out]; rfl, below_put hb (by omega) _ _ _ _⟩
end Go.Proofs.YthnecifdgoeenaaDoor
/- Ranges, both. -/
namespace Go.Proofs.YthnecifdgoeenaaDoor
open Go.RowKit
/-- Of a range: the bytes from one on, some of them. -/
def rangeW (lo hi : Nat) : Ws := ofN (List.range' lo (hi + 1 - lo))
def rangeInv (lo hi : Nat) (w : World) (i : Value) (wr : World) : Prop := ∃ (k : Nat) (s : Ws), k ≤ hi + 1 - lo ∧ s = ofN (List.range' lo k) ∧ i = .int .i64 (lo + k : Nat) ∧ Box wr w.heap.size Ws.nil ∧ Box wr (w.heap.size + 1) s ∧ Below w.heap.size w wr
set_option maxHeartbeats 2000000 in
theorem range_any (lo hi : Nat) (w : World) (hlo : lo < 256) (hhi : hi < 256) :
    Calls Tryd.prog 59 #[.int .u8 lo, .int .u8 hi] w fun e w' => e = .returned (rangeW lo hi).v ∧ Below w.heap.size w w' := by
  go_enter Tryd.func59, Tryd.ntmps59
  go_wp2
  go_loopw [6] (fun i wr => rangeInv lo hi w i wr) (fun i _ => hi + 1 - (intOf i).toNat)
  case atStart =>
    refine ⟨0, Ws.nil, Nat.zero_le _, rfl, rfl, (Box.zero w).alloc _, ?_, ((Below.refl _ w).alloc (Nat.le_refl _) _).alloc (by simp) _⟩
    have := Box.zero (w.alloc (.cells #[.int .u64 0, .int .u64 0, .int .u64 0, .int .u64 0] 24))
    simpa using this
  case round =>
    obtain ⟨k, s, hk, hs, rfl, hr, hB, hb⟩ := hrel
    obtain ⟨m, hm⟩ : ∃ m, m = lo + k := ⟨_, rfl⟩
    rw [← hm]
    have hsz := hb.size
    have hbs := hB.lt
    have hok : s.Ok := by rw [hs]; exact ofN_ok _
    have HS := Lib.hid hs
    have HM := Lib.hid hm
    have hm1 : m ≤ lo + k := by omega
    have hm2 : lo + k ≤ m := by omega
    clear hs hm
    obtain ⟨sa, sb, sc, sd⟩ := s
    by_cases hlt : m ≤ hi
    · have h255 : m < 256 := by omega
      have hsn : ofN (List.range' lo (k + 1)) = (Ws.mk sa sb sc sd).ins m := by rw [List.range'_concat, ofN_snoc, HS.out, HM.out]; simp
      obtain ⟨⟨c0, c1, c2, c3⟩, f0, f1, f2, f3⟩ := hB.all
      have HN := Lib.hid hsn
      clear hsn HS
      go_wp2_with fail
      refine (with_any ⟨sa, sb, sc, sd⟩ m _ hok h255).mono ?_
      rintro e w1 ⟨rfl, hb1⟩
      have hB1 := hB.below hb1 hbs
      have hr1 := hr.below hb1 (by omega)
      have hbw := hb.trans (hb1.mono hsz)
      clear c0 c1 c2 c3 f0 f1 f2 f3 hB hr hb1 hb
      obtain ⟨⟨c0, c1, c2, c3⟩, f0, f1, f2, f3⟩ := hB1.all
      generalize (Ws.mk sa sb sc sd).ins m = s' at *
      obtain ⟨ta, tb, tc, td⟩ := s'
      unfold Ws.v
      go_wp2
      refine ⟨⟨k + 1, ⟨ta, tb, tc, td⟩, by omega, HN.out.symm, by rw [HM.out]; go_num, ?_, hB1.put4 _ _ _ _, below_put hbw (by omega) _ _ _ _⟩, by simp [intOf]; omega⟩
      exact (((hr1.far (by simp) _).far (by simp) _).far (by simp) _).far (by simp) _
    · have he : k = hi + 1 - lo ∨ hi + 1 ≤ lo := by omega
      have HE : (⟨sa, sb, sc, sd⟩ : Ws) = rangeW lo hi := by
        rw [HS.out, rangeW]; congr 2; omega
      have HE' := Lib.hid HE
      clear HE he HS
      obtain ⟨⟨c0, c1, c2, c3⟩, f0, f1, f2, f3⟩ := hB.all
      obtain ⟨⟨d0, d1, d2, d3⟩, g0, g1, g2, g3⟩ := hr.all
      simp only [Ws.nil] at d0 d1 d2 d3
      go_wp2
      exact ret_box (hr.put4 _ _ _ _) Tryd.results59 rfl rfl ⟨by rw [← HE'.out], below_put hb (Nat.le_refl _) _ _ _ _⟩
end Go.Proofs.YthnecifdgoeenaaDoor
