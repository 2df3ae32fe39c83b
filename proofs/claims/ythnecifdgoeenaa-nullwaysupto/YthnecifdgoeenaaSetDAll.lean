/- Lemmas of mine, merged: SetD, SetE, SetG, SetF, SetRg, SetP. -/
import Derived.StillTailTactics
import Derived.IntWalk
import Derived.Test.YthnecifdgoeenaaSetCAll
import Derived.LoopN
import Derived.Test.YthnecifdgoeenaaSetAAll
import Derived.Deep.QuietTactic
import Derived.BigQuiet
import Derived.RegionTactic
import Derived.Test.YthnecifdgoeenaaSetMAll
/- The document's Of; set.Range and the document's. -/
namespace Go.Proofs.Ythnecifdgoeenaa
open Go.RowKit
end Go.Proofs.Ythnecifdgoeenaa
/- set.Less, set.Join, set.Meet. -/
namespace Go.Proofs.Ythnecifdgoeenaa
open Go.RowKit
/-- A slice of sets that was there. -/
def SetsAt (w : World) (a : Option Addr) (l : List Ws) : Prop :=
  l.length ≤ maxLen ∧ (∀ s ∈ l, s.Ok) ∧ (l = [] ∨ ∃ b off, a = some ⟨b, off, none⟩ ∧ b < w.heap.size ∧ ∀ i (h : i < l.length), w.cell? ⟨b, off + i * 4, none⟩ = some (.int .u64 l[i].a) ∧ w.cell? ⟨b, off + i * 4 + 1, none⟩ = some (.int .u64 l[i].b) ∧ w.cell? ⟨b, off + i * 4 + 2, none⟩ = some (.int .u64 l[i].c) ∧ w.cell? ⟨b, off + i * 4 + 3, none⟩ = some (.int .u64 l[i].d))
theorem SetsAt.below {w w' : World} {a : Option Addr} {l : List Ws} (h : SetsAt w a l) (hb : Below w.heap.size w w') : SetsAt w' a l := by
  obtain ⟨h2, ho, h3⟩ := h
  refine ⟨h2, ho, ?_⟩
  rcases h3 with h3 | ⟨b, off, rfl, hlt, hc⟩
  · exact .inl h3
  · refine .inr ⟨b, off, rfl, Nat.lt_of_lt_of_le hlt hb.size, fun i h => ?_⟩
    rw [hb.cell (p := ⟨b, off + i * 4, none⟩) hlt, hb.cell (p := ⟨b, off + i * 4 + 1, none⟩) hlt, hb.cell (p := ⟨b, off + i * 4 + 2, none⟩) hlt, hb.cell (p := ⟨b, off + i * 4 + 3, none⟩) hlt]
    exact hc i h
/-- The element of a slice of sets that a round reads. -/
theorem SetsAt.elem {w w' : World} {a : Option Addr} {l : List Ws} (h : SetsAt w a l) (hb : Below w.heap.size w w') {k : Nat} (hk : k < l.length) :
    ∃ b off s, a = some ⟨b, off, none⟩ ∧ b < w.heap.size ∧ l[k]? = some s ∧ s.Ok ∧ w'.cell? ⟨b, off + k * 4, none⟩ = some (.int .u64 s.a) ∧ w'.cell? ⟨b, off + k * 4 + 1, none⟩ = some (.int .u64 s.b) ∧ w'.cell? ⟨b, off + k * 4 + 2, none⟩ = some (.int .u64 s.c) ∧ w'.cell? ⟨b, off + k * 4 + 3, none⟩ = some (.int .u64 s.d) := by
  obtain ⟨_, ho, h3⟩ := h.below hb
  obtain ⟨_, _, h3'⟩ := h
  rcases h3 with h3 | ⟨b, off, rfl, _, hc⟩
  · subst h3; simp at hk
  · rcases h3' with h3' | ⟨b', off', he, hlt, _⟩
    · subst h3'; simp at hk
    · injection he with he; injection he with he1 he2; subst he1; subst he2
      exact ⟨b, off, l[k], rfl, hlt, List.getElem?_eq_getElem hk, ho _ (List.getElem_mem hk), hc k hk⟩
def foldInv (f : Ws → Ws → Ws) (z : Ws) (l : List Ws) (w : World) (g : Nat) (i : Value) (wr : World) : Prop := ∃ (k : Nat) (s : Ws), k ≤ l.length ∧ s = (l.take k).foldl f z ∧ i = .int .i64 k ∧ Box wr w.heap.size Ws.nil ∧ Box wr g s ∧ Below w.heap.size w wr
theorem fold_take {f : Ws → Ws → Ws} {z : Ws} {l : List Ws} {k : Nat} {s : Ws} (h : l[k]? = some s) : (l.take (k + 1)).foldl f z = f ((l.take k).foldl f z) s := by
  rw [List.take_add_one, h]; simp
theorem fold_ok {f : Ws → Ws → Ws} (hf : ∀ s t : Ws, s.Ok → t.Ok → (f s t).Ok) {z : Ws} (hz : z.Ok) {l : List Ws} (hl : ∀ s ∈ l, s.Ok) : (l.foldl f z).Ok := by
  induction l generalizing z with
  | nil => exact hz
  | cons x t ih => exact ih (hf _ _ hz (hl x (List.mem_cons_self ..))) fun s hs => hl s (List.mem_cons_of_mem _ hs)
set_option maxHeartbeats 1000000 in
theorem join_any (a : Option Addr) (l : List Ws) (cap : Nat) (w : World) (h : SetsAt w a l) :
    Calls Try.prog 19 #[.slice a l.length cap] w fun e w' => e = .returned (l.foldl Ws.join Ws.nil).v ∧ Below w.heap.size w w' := by
  have hS := Lib.hid h
  have hl := h.1
  unfold maxLen at hl
  clear h
  have i0 := idx0; have i1 := idx1; have i2 := idx2; have i3 := idx3
  go_enter Try.func19, Try.ntmps19
  go_wp2
  go_loopw [10] (fun i wr => foldInv Ws.join Ws.nil l w (w.heap.size + 1) i wr) (fun i _ => l.length - (intOf i).toNat)
  case atStart =>
    refine ⟨0, Ws.nil, Nat.zero_le _, rfl, rfl, (Box.zero w).alloc _, ?_, ((Below.refl _ w).alloc (Nat.le_refl _) _).alloc (by simp) _⟩
    have := Box.zero (w.alloc (.cells #[.int .u64 0, .int .u64 0, .int .u64 0, .int .u64 0] 28))
    simpa using this
  case round =>
    obtain ⟨k, s, hk, hs, rfl, hr, hB, hb⟩ := hrel
    have hsz := hb.size
    have hbs := hB.lt
    have hok : s.Ok := by
      rw [hs]
      exact fold_ok (fun s t hs ht => Ws.join_ok hs ht) Ws.nil_ok fun s hs => hS.out.2.1 s (List.mem_of_mem_take hs)
    have HS := Lib.hid hs
    clear hs
    obtain ⟨sa, sb, sc, sd⟩ := s
    obtain ⟨h0, h1, h2, h3⟩ := hok
    simp only at h0 h1 h2 h3
    by_cases hlt : k < l.length
    · obtain ⟨b, off, t, hab, hblt, hlk, htk, z0, z1, z2, z3⟩ := hS.out.elem hb hlt
      obtain ⟨ta, tb, tc, td⟩ := t
      obtain ⟨k0, k1, k2, k3⟩ := htk
      simp only at k0 k1 k2 k3
      subst hab
      have e0 := Lib.hid (u64_or_nat sa ta h0 k0)
      have e1 := Lib.hid (u64_or_nat sb tb h1 k1)
      have e2 := Lib.hid (u64_or_nat sc tc h2 k2)
      have e3 := Lib.hid (u64_or_nat sd td h3 k3)
      have hn : (l.take (k + 1)).foldl Ws.join Ws.nil = (Ws.mk sa sb sc sd).join ⟨ta, tb, tc, td⟩ := by rw [fold_take hlk, HS.out]
      have HN := Lib.hid hn
      clear hn hlk HS
      obtain ⟨⟨c0, c1, c2, c3⟩, f0, f1, f2, f3⟩ := hB.all
      simp only at c0 c1 c2 c3 z0 z1 z2 z3
      go_wp2
      refine wp_loop_rounds 5 ?_
      rw [rounds_succ]
      go_wp2
      rw [rounds_succ]
      go_wp2
      rw [rounds_succ]
      go_wp2
      rw [rounds_succ]
      go_wp2
      rw [rounds_succ]
      go_wp2
      rw [e0.out, e1.out, e2.out, e3.out]
      refine ⟨⟨k + 1, _, by omega, HN.out.symm, by go_num, ?_, (hB.put4 _ _ _ _).alloc _, (below_put hb (by omega) _ _ _ _).alloc (by simp; omega) _⟩, by simp [intOf]; omega⟩
      exact ((((hr.far (by simp) _).far (by simp) _).far (by simp) _).far (by simp) _).alloc _
    · have he : l.take k = l := List.take_of_length_le (by omega)
      rw [he] at HS
      clear he
      obtain ⟨⟨c0, c1, c2, c3⟩, f0, f1, f2, f3⟩ := hB.all
      obtain ⟨⟨d0, d1, d2, d3⟩, g0, g1, g2, g3⟩ := hr.all
      simp only [Ws.nil] at d0 d1 d2 d3
      go_wp2
      exact ret_box (hr.put4 _ _ _ _) Try.results19 rfl rfl ⟨by rw [← HS.out], below_put hb (Nat.le_refl _) _ _ _ _⟩
end Go.Proofs.Ythnecifdgoeenaa
/- Both Orders. -/
namespace Go.Proofs.Ythnecifdgoeenaa
open Go.RowKit
theorem ord_at {s t : Ws} {k : Nat} {c : Int} (hk : k < 4) (h : ∀ j, j < k → s.get j = t.get j) (hc : cmpN (s.get k) (t.get k) = c) (h0 : c ≠ 0) : ordW s t = c := by
  obtain ⟨a, b, c', d⟩ := s
  obtain ⟨a', b', c'', d'⟩ := t
  have hne : (Ws.get ⟨a, b, c', d⟩ k) ≠ Ws.get ⟨a', b', c'', d'⟩ k := by
    intro e; rw [e] at hc; exact h0 (hc.symm.trans (cmpN_zero.2 rfl))
  subst hc
  have hq : k = 0 ∨ k = 1 ∨ k = 2 ∨ k = 3 := by omega
  rcases hq with rfl | rfl | rfl | rfl
  · simp [Ws.get] at hne; simp [ordW, Ws.get, hne]
  · have e0 := h 0 (by decide)
    simp [Ws.get] at hne e0; simp [ordW, Ws.get, hne, e0]
  · have e0 := h 0 (by decide); have e1 := h 1 (by decide)
    simp [Ws.get] at hne e0 e1; simp [ordW, Ws.get, hne, e0, e1]
  · have e0 := h 0 (by decide); have e1 := h 1 (by decide); have e2 := h 2 (by decide)
    simp [Ws.get] at hne e0 e1 e2; simp [ordW, Ws.get, e0, e1, e2]
theorem ord_all {s t : Ws} (h : ∀ j, j < 4 → s.get j = t.get j) : ordW s t = 0 := (ordW_zero s t).2 (Ws.get_ext h)
theorem cmpN_cases (x y : Nat) : cmpN x y = 0 ∨ cmpN x y = -1 ∨ cmpN x y = 1 := by unfold cmpN; split <;> (try split) <;> simp
theorem cmpN_lt {x y : Nat} (h : cmpN x y = -1) : x < y := by unfold cmpN at h; split at h <;> (try split at h) <;> first | assumption | omega
theorem cmpN_gt {x y : Nat} (h : cmpN x y = 1) : y < x := by unfold cmpN at h; split at h <;> (try split at h) <;> first | assumption | omega
theorem get_step {s t : Ws} {k : Nat} (h : ∀ j, j < k → s.get j = t.get j) (e : s.get k = t.get k) : ∀ j, j < k + 1 → s.get j = t.get j := by
  intro j hj
  by_cases h1 : j = k
  · rw [h1]; exact e
  · exact h j (by omega)
def ordInv (s t : Ws) (w : World) (i : Value) (wr : World) : Prop := ∃ k : Nat, k ≤ 4 ∧ i = .int .i64 k ∧ (∀ j, j < k → s.get j = t.get j) ∧ Box wr w.heap.size s ∧ Box wr (w.heap.size + 1) t ∧ Below w.heap.size w wr
theorem below_drewN {B : Nat} {w w' : World} (h : Below B w w') (n : Nat) : Below B w (w'.drewN n) := ⟨h.os, h.tape, h.output, h.size, h.block⟩
end Go.Proofs.Ythnecifdgoeenaa
/- The document's Join and Meet; both Orders. -/
namespace Go.Proofs.Ythnecifdgoeenaa
open Go.RowKit
/-- Some bytes put into a set, if they are asked for. -/
def pick (p : Nat → Bool) (z : Ws) (k : Nat) : Ws := (List.range k).foldl (fun s n => if p n = true then s.ins n else s) z
theorem pick_succ (p : Nat → Bool) (z : Ws) (k : Nat) : pick p z (k + 1) = if p k = true then (pick p z k).ins k else pick p z k := by
  unfold pick; rw [List.range_succ, List.foldl_append]; rfl
theorem pick_ok (p : Nat → Bool) {z : Ws} (hz : z.Ok) (k : Nat) : (pick p z k).Ok := by
  induction k with
  | zero => exact hz
  | succ k ih => rw [pick_succ]; split
                 · exact Ws.ins_ok ih k
                 · exact ih
theorem pick_has (p : Nat → Bool) (z : Ws) (k : Nat) (hk : k ≤ 256) (m : Nat) (hm : m < 256) : (pick p z k).has m = (z.has m || (decide (m < k) && p m)) := by
  induction k with
  | zero => simp [pick]
  | succ k ih =>
    rw [pick_succ]
    have ih := ih (by omega)
    split
    · rename_i h
      rw [Ws.has_ins _ _ _ (by omega) hm, ih]
      by_cases e : k = m
      · subst e; simp [h]
      · have : decide (m < k + 1) = decide (m < k) := by rw [decide_eq_decide]; omega
        simp [e, this]
    · rename_i h
      rw [ih]
      by_cases e : k = m
      · subst e; simp [h]
      · have : decide (m < k + 1) = decide (m < k) := by rw [decide_eq_decide]; omega
        rw [this]
theorem pick_join {s t : Ws} (hs : s.Ok) (ht : t.Ok) : pick t.has s 256 = s.join t := by
  apply Ws.has_ext (pick_ok _ hs 256) (Ws.join_ok hs ht)
  intro n hn
  rw [pick_has _ _ _ (Nat.le_refl _) n hn, Ws.has_join]
  simp [hn]
def meetP (s t : Ws) (q : Bool) (n : Nat) : Bool := s.has n && (t.has n == q)
theorem pick_meet {s : Ws} (hs : s.Ok) (t : Ws) : pick (meetP s t true) Ws.nil 256 = s.meet t := by
  apply Ws.has_ext (pick_ok _ Ws.nil_ok 256) (Ws.meet_ok hs t)
  intro n hn
  rw [pick_has _ _ _ (Nat.le_refl _) n hn, Ws.has_meet, Ws.has_nil]
  simp [hn, meetP]
theorem pick_less {s t : Ws} (hs : s.Ok) (ht : t.Ok) : pick (meetP s t false) Ws.nil 256 = s.less t := by
  apply Ws.has_ext (pick_ok _ Ws.nil_ok 256) (Ws.less_ok hs t)
  intro n hn
  rw [pick_has _ _ _ (Nat.le_refl _) n hn, Ws.has_less _ _ ht, Ws.has_nil]
  simp [hn, meetP]
/-- Four blocks: both arguments', the result's, the set's that is made. -/
def pickInv (p : Nat → Bool) (z s t : Ws) (w : World) (i : Value) (wr : World) : Prop := ∃ (k : Nat) (u : Ws), k ≤ 256 ∧ u = pick p z k ∧ i = .int .i64 k ∧ Box wr w.heap.size s ∧ Box wr (w.heap.size + 1) t ∧ Box wr (w.heap.size + 1 + 1) Ws.nil ∧ Box wr (w.heap.size + 1 + 1 + 1) u ∧ Below w.heap.size w wr
end Go.Proofs.Ythnecifdgoeenaa
/- Ranges, both. -/
namespace Go.Proofs.Ythnecifdgoeenaa
open Go.RowKit
/-- Of a range: the bytes from one on, some of them. -/
def rangeW (lo hi : Nat) : Ws := ofN (List.range' lo (hi + 1 - lo))
def rangeInv (lo hi : Nat) (w : World) (i : Value) (wr : World) : Prop := ∃ (k : Nat) (s : Ws), k ≤ hi + 1 - lo ∧ s = ofN (List.range' lo k) ∧ i = .int .i64 (lo + k : Nat) ∧ Box wr w.heap.size Ws.nil ∧ Box wr (w.heap.size + 1) s ∧ Below w.heap.size w wr
set_option maxHeartbeats 2000000 in
theorem range_any (lo hi : Nat) (w : World) (hlo : lo < 256) (hhi : hi < 256) :
    Calls Try.prog 53 #[.int .u8 lo, .int .u8 hi] w fun e w' => e = .returned (rangeW lo hi).v ∧ Below w.heap.size w w' := by
  go_enter Try.func53, Try.ntmps53
  go_wp2
  go_loopw [6] (fun i wr => rangeInv lo hi w i wr) (fun i _ => hi + 1 - (intOf i).toNat)
  case atStart =>
    refine ⟨0, Ws.nil, Nat.zero_le _, rfl, rfl, (Box.zero w).alloc _, ?_, ((Below.refl _ w).alloc (Nat.le_refl _) _).alloc (by simp) _⟩
    have := Box.zero (w.alloc (.cells #[.int .u64 0, .int .u64 0, .int .u64 0, .int .u64 0] 28))
    simpa using this
  case round =>
    obtain ⟨k, s, hk, hs, rfl, hr, hB, hb⟩ := hrel
    obtain ⟨m, hm⟩ : ∃ m, m = lo + k := ⟨_, rfl⟩
    rw [← hm]
    have hsz := hb.size
    have hbs := hB.lt
    have hok : s.Ok := by rw [hs]; exact ofN_ok _
    have HS := Lib.hid hs
    have HM := Lib.hid hm
    have hm1 : m ≤ lo + k := by omega
    have hm2 : lo + k ≤ m := by omega
    clear hs hm
    obtain ⟨sa, sb, sc, sd⟩ := s
    by_cases hlt : m ≤ hi
    · have h255 : m < 256 := by omega
      have hsn : ofN (List.range' lo (k + 1)) = (Ws.mk sa sb sc sd).ins m := by rw [List.range'_concat, ofN_snoc, HS.out, HM.out]; simp
      obtain ⟨⟨c0, c1, c2, c3⟩, f0, f1, f2, f3⟩ := hB.all
      have HN := Lib.hid hsn
      clear hsn HS
      go_wp2_with fail
      refine (with_any ⟨sa, sb, sc, sd⟩ m _ hok h255).mono ?_
      rintro e w1 ⟨rfl, hb1⟩
      have hB1 := hB.below hb1 hbs
      have hr1 := hr.below hb1 (by omega)
      have hbw := hb.trans (hb1.mono hsz)
      clear c0 c1 c2 c3 f0 f1 f2 f3 hB hr hb1 hb
      obtain ⟨⟨c0, c1, c2, c3⟩, f0, f1, f2, f3⟩ := hB1.all
      generalize (Ws.mk sa sb sc sd).ins m = s' at *
      obtain ⟨ta, tb, tc, td⟩ := s'
      unfold Ws.v
      go_wp2
      refine ⟨⟨k + 1, ⟨ta, tb, tc, td⟩, by omega, HN.out.symm, by rw [HM.out]; go_num, ?_, hB1.put4 _ _ _ _, below_put hbw (by omega) _ _ _ _⟩, by simp [intOf]; omega⟩
      exact (((hr1.far (by simp) _).far (by simp) _).far (by simp) _).far (by simp) _
    · have he : k = hi + 1 - lo ∨ hi + 1 ≤ lo := by omega
      have HE : (⟨sa, sb, sc, sd⟩ : Ws) = rangeW lo hi := by
        rw [HS.out, rangeW]; congr 2; omega
      have HE' := Lib.hid HE
      clear HE he HS
      obtain ⟨⟨c0, c1, c2, c3⟩, f0, f1, f2, f3⟩ := hB.all
      obtain ⟨⟨d0, d1, d2, d3⟩, g0, g1, g2, g3⟩ := hr.all
      simp only [Ws.nil] at d0 d1 d2 d3
      go_wp2
      exact ret_box (hr.put4 _ _ _ _) Try.results53 rfl rfl ⟨by rw [← HE'.out], below_put hb (Nat.le_refl _) _ _ _ _⟩
end Go.Proofs.Ythnecifdgoeenaa
/- math/bits.OnesCount64, set.Count. -/
namespace Go.Proofs.Ythnecifdgoeenaa
open Go.RowKit
theorem m1_8 : M1 8 = 6148914691236517205 := rfl
theorem m2_8 : M2 8 = 3689348814741910323 := rfl
theorem m3_8 : M3 8 = 1085102592571150095 := rfl
theorem and_lit (x m : Nat) (hx : x < 18446744073709551616) (hm : m < 18446744073709551616) : bits BinOp.and IntKind.u64 (x : Int) (m : Int) = ((x &&& m : Nat) : Int) := u64_and_nat x m hx hm
theorem wrap_nat (x : Nat) (hx : x < 18446744073709551616) : IntKind.u64.wrap (x : Int) = x := by rw [IntKind.wrap_u64]; omega
theorem st1 (x : Nat) (hx : x < 18446744073709551616) : IntKind.u64.wrap (bits BinOp.and IntKind.u64 ((x : Int) / 2) 6148914691236517205 + bits BinOp.and IntKind.u64 (x : Int) 6148914691236517205) = ((s1 x 8 : Nat) : Int) := by
  have e : (x : Int) / 2 = ((x / 2 : Nat) : Int) := rfl
  have m : (6148914691236517205 : Int) = ((M1 8 : Nat) : Int) := rfl
  have h := s1_lt x
  rw [e, m, and_lit _ _ (by omega) (by decide), and_lit _ _ hx (by decide)]
  exact wrap_nat (s1 x 8) h
theorem st2 (x : Nat) (hx : x < 18446744073709551616) : IntKind.u64.wrap (bits BinOp.and IntKind.u64 ((x : Int) / 4) 3689348814741910323 + bits BinOp.and IntKind.u64 (x : Int) 3689348814741910323) = ((s2 x 8 : Nat) : Int) := by
  have e : (x : Int) / 4 = ((x / 4 : Nat) : Int) := rfl
  have m : (3689348814741910323 : Int) = ((M2 8 : Nat) : Int) := rfl
  have h := s2_lt x
  rw [e, m, and_lit _ _ (by omega) (by decide), and_lit _ _ hx (by decide)]
  exact wrap_nat (s2 x 8) h
theorem s2_small (x : Nat) : s2 x 8 ≤ 7378697629483820646 := by
  have h1 : x / 4 &&& M2 8 ≤ M2 8 := Nat.and_le_right
  have h2 : x &&& M2 8 ≤ M2 8 := Nat.and_le_right
  have h3 : M2 8 = 3689348814741910323 := rfl
  unfold s2; omega
theorem st3 (z : Nat) (hz : z ≤ 7378697629483820646) : bits BinOp.and IntKind.u64 (IntKind.u64.wrap ((z : Int) / 16 + (z : Int))) 1085102592571150095 = ((s3 z 8 : Nat) : Int) := by
  have e : (z : Int) / 16 + (z : Int) = ((z / 16 + z : Nat) : Int) := rfl
  have m : (1085102592571150095 : Int) = ((M3 8 : Nat) : Int) := rfl
  rw [e, wrap_nat _ (by omega), m, and_lit _ _ (by omega) (by decide)]
  rfl
theorem st4 (u k : Nat) (h : u + u / k < 18446744073709551616) : IntKind.u64.wrap ((u : Int) + (u : Int) / (k : Int)) = ((u + u / k : Nat) : Int) := by
  have e : (u : Int) + (u : Int) / (k : Int) = ((u + u / k : Nat) : Int) := rfl
  rw [e, wrap_nat _ h]
theorem and127 (z : Nat) (hz : z < 9223372036854775808) : bits BinOp.and IntKind.i64 (z : Int) 127 = ((z % 128 : Nat) : Int) := by
  have h1 : (BitVec.ofInt 64 (z : Int)).toNat = z := by
    rw [BitVec.ofInt_natCast, BitVec.toNat_ofNat]; exact Nat.mod_eq_of_lt (by omega)
  have h2 : (BitVec.ofInt 64 (127 : Int)).toNat = 127 := by decide
  show IntKind.i64.wrap ((BitVec.ofInt 64 (z : Int) &&& BitVec.ofInt 64 (127 : Int)).toNat : Int) = _
  rw [BitVec.toNat_and, h1, h2, show (127 : Nat) = 2 ^ 7 - 1 from rfl, Nat.and_two_pow_sub_one_eq_mod]
  exact IntWalk.i64_in _ (by omega)
set_option maxHeartbeats 1000000 in
theorem ones_any (x : Nat) (w : World) (hx : x < 18446744073709551616) :
    Calls Try.prog 32 #[.int .u64 x] w fun e w' => e = .returned (.int .i64 (bitsN x)) ∧ w = w' := by
  obtain ⟨hu, hv, hw, hz, hr⟩ := pop_sum x _ rfl
  have HR := Lib.hid hr
  clear hr
  go_enter Try.func32, Try.ntmps32
  go_wp2
  go_ret
  refine ⟨?_, rfl⟩
  rw [st1 x hx, st2 _ (s1_lt x), st3 _ (s2_small _)]
  generalize s3 (s2 (s1 x 8) 8) 8 = u at *
  have e1 := st4 u 256 (by omega)
  simp only [Int.cast_ofNat_Int] at e1
  rw [e1]
  generalize u + u / 256 = v at *
  have e2 := st4 v 65536 (by omega)
  simp only [Int.cast_ofNat_Int] at e2
  rw [e2]
  generalize v + v / 65536 = y at *
  have e3 := st4 y 4294967296 (by omega)
  simp only [Int.cast_ofNat_Int] at e3
  rw [e3]
  generalize y + y / 4294967296 = z at *
  have e4 : wrap64 (z : Int) = z := by simp only [wrap64]; omega
  show Ending.returned (.int .i64 (bits BinOp.and IntKind.i64 (wrap64 (z : Int)) 127)) = _
  rw [e4, and127 z hz, HR.out]
def cntL (l : List Ws) : Nat := (l.map fun s => (bytesN s).length).sum
theorem cntL_take {l : List Ws} {k : Nat} {s : Ws} (h : l[k]? = some s) : cntL (l.take (k + 1)) = cntL (l.take k) + (bytesN s).length := by
  unfold cntL; rw [List.take_add_one, h]; simp
theorem cntL_le (l : List Ws) : cntL l ≤ 256 * l.length := by
  induction l with
  | nil => simp [cntL]
  | cons x t ih =>
    have := bytesN_length_le x
    simp [cntL] at ih ⊢; omega
def cntInv (l : List Ws) (w : World) (v i : Value) (wr : World) : Prop := ∃ k n : Nat, k ≤ l.length ∧ n = cntL (l.take k) ∧ v = .int .i64 n ∧ i = .int .i64 k ∧ Below w.heap.size w wr
set_option maxHeartbeats 2000000 in
theorem setCount_any (a : Option Addr) (l : List Ws) (cap : Nat) (w : World) (h : SetsAt w a l) (hl : l.length ≤ 1000) :
    Calls Try.prog 14 #[.slice a l.length cap] w fun e w' => e = .returned (.int .i64 (cntL l)) ∧ Below w.heap.size w w' := by
  have hS := Lib.hid h
  clear h
  have i0 := idx0; have i1 := idx1; have i2 := idx2; have i3 := idx3
  go_enter Try.func14, Try.ntmps14
  go_wp2
  go_loopw [3, 10] (fun v i wr => cntInv l w v i wr) (fun _ i _ => l.length - (intOf i).toNat)
  case atStart => exact ⟨0, 0, Nat.zero_le _, rfl, rfl, rfl, Below.refl _ _⟩
  case round =>
    obtain ⟨k, n, hk, hn, rfl, rfl, hb⟩ := hrel
    have hsz := hb.size
    have hnl : n ≤ 256000 := by
      have := cntL_le (l.take k)
      rw [List.length_take] at this; omega
    have HN := Lib.hid hn
    clear hn
    by_cases hlt : k < l.length
    · obtain ⟨b, off, t, hab, hblt, hlk, htk, z0, z1, z2, z3⟩ := hS.out.elem hb hlt
      have hc := count_words t
      have hnx := cntL_take hlk
      obtain ⟨ta, tb, tc, td⟩ := t
      obtain ⟨k0, k1, k2, k3⟩ := htk
      simp only at k0 k1 k2 k3 z0 z1 z2 z3 hc
      subst hab
      have l0 := bitsN_le ta
      have l1 := bitsN_le tb
      have l2 := bitsN_le tc
      have l3 := bitsN_le td
      have o0 := fun W => ones_any ta W k0
      have o1 := fun W => ones_any tb W k1
      have o2 := fun W => ones_any tc W k2
      have o3 := fun W => ones_any td W k3
      rw [hc, ← HN.out] at hnx
      clear hc HN hlk
      generalize bitsN ta = p0 at *
      generalize bitsN tb = p1 at *
      generalize bitsN tc = p2 at *
      generalize bitsN td = p3 at *
      have O0 := Lib.hid o0
      have O1 := Lib.hid o1
      have O2 := Lib.hid o2
      have O3 := Lib.hid o3
      have HX := Lib.hid hnx
      clear o0 o1 o2 o3 hnx
      go_wp2
      refine wp_loop_rounds 5 ?_
      rw [rounds_succ]
      go_wp2_with fail
      refine (O0.out _).mono ?_
      rintro e w1 ⟨rfl, rfl⟩
      go_wp2
      rw [rounds_succ]
      go_wp2_with fail
      refine (O1.out _).mono ?_
      rintro e w1 ⟨rfl, rfl⟩
      go_wp2
      rw [rounds_succ]
      go_wp2_with fail
      refine (O2.out _).mono ?_
      rintro e w1 ⟨rfl, rfl⟩
      go_wp2
      rw [rounds_succ]
      go_wp2_with fail
      refine (O3.out _).mono ?_
      rintro e w1 ⟨rfl, rfl⟩
      go_wp2
      rw [rounds_succ]
      go_wp2
      refine ⟨⟨k + 1, n + (p0 + p1 + p2 + p3), by omega, HX.out.symm, ?_, by go_num, hb.alloc hsz _⟩, by simp [intOf]; omega⟩
      congr 1; omega
    · have he : l.take k = l := List.take_of_length_le (by omega)
      rw [he] at HN
      clear he
      go_wp2
      go_ret
      exact ⟨by rw [← HN.out]; rfl, hb⟩
end Go.Proofs.Ythnecifdgoeenaa
