/- Lemmas of mine, merged: QPSetE, QPNullS, QPSetG, QPSetRg. -/
import Derived.StillTailTactics
import Derived.IntWalk
import Derived.LoopN
import Derived.Test.YtiegejbbjlhpdaaQPSetCAll
import Derived.Test.YtiegejbbjlhpdaaQPSetAAll
import Derived.Test.YtiegejbbjlhpdaaQPAnyOrdAll
import Derived.Test.YtiegejbbjlhpdaaQPRexBAll
import Derived.Deep.QuietTactic
import Derived.BigQuiet
import Derived.RegionTactic
/- Lemmas of mine. -/
namespace Go.Proofs.Ytiegejbbjlhpdaa
open Go.RowKit
def SetsAt (w : World) (a : Option Addr) (l : List Ws) : Prop :=
  l.length ≤ maxLen ∧ (∀ s ∈ l, s.Ok) ∧ (l = [] ∨ ∃ b off, a = some ⟨b, off, none⟩ ∧ b < w.heap.size ∧ ∀ i (h : i < l.length), w.cell? ⟨b, off + i * 4, none⟩ = some (.int .u64 l[i].a) ∧ w.cell? ⟨b, off + i * 4 + 1, none⟩ = some (.int .u64 l[i].b) ∧ w.cell? ⟨b, off + i * 4 + 2, none⟩ = some (.int .u64 l[i].c) ∧ w.cell? ⟨b, off + i * 4 + 3, none⟩ = some (.int .u64 l[i].d))
theorem SetsAt.below {w w' : World} {a : Option Addr} {l : List Ws} (h : SetsAt w a l) (hb : Below w.heap.size w w') : SetsAt w' a l := by
  obtain ⟨h2, ho, h3⟩ := h
  refine ⟨h2, ho, ?_⟩
  rcases h3 with h3 | ⟨b, off, rfl, hlt, hc⟩
  · exact .inl h3
  · refine .inr ⟨b, off, rfl, Nat.lt_of_lt_of_le hlt hb.size, fun i h => ?_⟩
    rw [hb.cell (p := ⟨b, off + i * 4, none⟩) hlt, hb.cell (p := ⟨b, off + i * 4 + 1, none⟩) hlt, hb.cell (p := ⟨b, off + i * 4 + 2, none⟩) hlt, hb.cell (p := ⟨b, off + i * 4 + 3, none⟩) hlt]
    exact hc i h
theorem SetsAt.elem {w w' : World} {a : Option Addr} {l : List Ws} (h : SetsAt w a l) (hb : Below w.heap.size w w') {k : Nat} (hk : k < l.length) :
    ∃ b off s, a = some ⟨b, off, none⟩ ∧ b < w.heap.size ∧ l[k]? = some s ∧ s.Ok ∧ w'.cell? ⟨b, off + k * 4, none⟩ = some (.int .u64 s.a) ∧ w'.cell? ⟨b, off + k * 4 + 1, none⟩ = some (.int .u64 s.b) ∧ w'.cell? ⟨b, off + k * 4 + 2, none⟩ = some (.int .u64 s.c) ∧ w'.cell? ⟨b, off + k * 4 + 3, none⟩ = some (.int .u64 s.d) := by
  obtain ⟨_, ho, h3⟩ := h.below hb
  obtain ⟨_, _, h3'⟩ := h
  rcases h3 with h3 | ⟨b, off, rfl, _, hc⟩
  · subst h3; simp at hk
  · rcases h3' with h3' | ⟨b', off', he, hlt, _⟩
    · subst h3'; simp at hk
    · injection he with he; injection he with he1 he2; subst he1; subst he2
      exact ⟨b, off, l[k], rfl, hlt, List.getElem?_eq_getElem hk, ho _ (List.getElem_mem hk), hc k hk⟩
def foldInv (f : Ws → Ws → Ws) (z : Ws) (l : List Ws) (w : World) (g : Nat) (i : Value) (wr : World) : Prop := ∃ (k : Nat) (s : Ws), k ≤ l.length ∧ s = (l.take k).foldl f z ∧ i = .int .i64 k ∧ Box wr w.heap.size Ws.nil ∧ Box wr g s ∧ Below w.heap.size w wr
theorem fold_take {f : Ws → Ws → Ws} {z : Ws} {l : List Ws} {k : Nat} {s : Ws} (h : l[k]? = some s) : (l.take (k + 1)).foldl f z = f ((l.take k).foldl f z) s := by
  rw [List.take_add_one, h]; simp
theorem fold_ok {f : Ws → Ws → Ws} (hf : ∀ s t : Ws, s.Ok → t.Ok → (f s t).Ok) {z : Ws} (hz : z.Ok) {l : List Ws} (hl : ∀ s ∈ l, s.Ok) : (l.foldl f z).Ok := by
  induction l generalizing z with
  | nil => exact hz
  | cons x t ih => exact ih (hf _ _ hz (hl x (List.mem_cons_self ..))) fun s hs => hl s (List.mem_cons_of_mem _ hs)
set_option maxHeartbeats 1000000 in
theorem join_any (a : Option Addr) (l : List Ws) (cap : Nat) (w : World) (h : SetsAt w a l) :
    Calls Try.prog 74 #[.slice a l.length cap] w fun e w' => e = .returned (l.foldl Ws.join Ws.nil).v ∧ Below w.heap.size w w' := by
  have hS := Lib.hid h
  have hl := h.1
  unfold maxLen at hl
  clear h
  have i0 := idx0; have i1 := idx1; have i2 := idx2; have i3 := idx3
  go_enter Try.func74, Try.ntmps74
  go_wp2
  go_loopw [10] (fun i wr => foldInv Ws.join Ws.nil l w (w.heap.size + 1) i wr) (fun i _ => l.length - (intOf i).toNat)
  case atStart =>
    refine ⟨0, Ws.nil, Nat.zero_le _, rfl, rfl, (Box.zero w).alloc _, ?_, ((Below.refl _ w).alloc (Nat.le_refl _) _).alloc (by simp) _⟩
    have := Box.zero (w.alloc (.cells #[.int .u64 0, .int .u64 0, .int .u64 0, .int .u64 0] 24))
    simpa using this
  case round =>
    obtain ⟨k, s, hk, hs, rfl, hr, hB, hb⟩ := hrel
    have hsz := hb.size
    have hbs := hB.lt
    have hok : s.Ok := by
      rw [hs]
      exact fold_ok (fun s t hs ht => Ws.join_ok hs ht) Ws.nil_ok fun s hs => hS.out.2.1 s (List.mem_of_mem_take hs)
    have HS := Lib.hid hs
    clear hs
    obtain ⟨sa, sb, sc, sd⟩ := s
    obtain ⟨h0, h1, h2, h3⟩ := hok
    simp only at h0 h1 h2 h3
    by_cases hlt : k < l.length
    · obtain ⟨b, off, t, hab, hblt, hlk, htk, z0, z1, z2, z3⟩ := hS.out.elem hb hlt
      obtain ⟨ta, tb, tc, td⟩ := t
      obtain ⟨k0, k1, k2, k3⟩ := htk
      simp only at k0 k1 k2 k3
      subst hab
      have e0 := Lib.hid (u64_or_nat sa ta h0 k0)
      have e1 := Lib.hid (u64_or_nat sb tb h1 k1)
      have e2 := Lib.hid (u64_or_nat sc tc h2 k2)
      have e3 := Lib.hid (u64_or_nat sd td h3 k3)
      have hn : (l.take (k + 1)).foldl Ws.join Ws.nil = (Ws.mk sa sb sc sd).join ⟨ta, tb, tc, td⟩ := by rw [fold_take hlk, HS.out]
      have HN := Lib.hid hn
      clear hn hlk HS
      obtain ⟨⟨c0, c1, c2, c3⟩, f0, f1, f2, f3⟩ := hB.all
      simp only at c0 c1 c2 c3 z0 z1 z2 z3
      go_wp2
      refine wp_loop_rounds 5 ?_
      rw [rounds_succ]
      go_wp2
      rw [rounds_succ]
      go_wp2
      rw [rounds_succ]
      go_wp2
      rw [rounds_succ]
      go_wp2
      rw [rounds_succ]
      go_wp2
      rw [e0.out, e1.out, e2.out, e3.out]
      refine ⟨⟨k + 1, _, by omega, HN.out.symm, by go_num, ?_, (hB.put4 _ _ _ _).alloc _, (below_put hb (by omega) _ _ _ _).alloc (by simp; omega) _⟩, by simp [intOf]; omega⟩
      exact ((((hr.far (by simp) _).far (by simp) _).far (by simp) _).far (by simp) _).alloc _
    · have he : l.take k = l := List.take_of_length_le (by omega)
      rw [he] at HS
      clear he
      obtain ⟨⟨c0, c1, c2, c3⟩, f0, f1, f2, f3⟩ := hB.all
      obtain ⟨⟨d0, d1, d2, d3⟩, g0, g1, g2, g3⟩ := hr.all
      simp only [Ws.nil] at d0 d1 d2 d3
      go_wp2
      exact ret_box (hr.put4 _ _ _ _) Try.results74 rfl rfl ⟨by rw [← HS.out], below_put hb (Nat.le_refl _) _ _ _ _⟩
open Go.RowKit
theorem bel_al (w : World) (o : Obj) : Below w.heap.size w (w.alloc o) := (Below.refl _ w).alloc (Nat.le_refl _) o
open Go.RowKit
theorem below_drewN {B : Nat} {w w' : World} (h : Below B w w') (n : Nat) : Below B w (w'.drewN n) := ⟨h.os, h.tape, h.output, h.size, h.block⟩
open Go.RowKit
def rangeW (lo hi : Nat) : Ws := ofN (List.range' lo (hi + 1 - lo))
def rangeInv (lo hi : Nat) (w : World) (i : Value) (wr : World) : Prop := ∃ (k : Nat) (s : Ws), k ≤ hi + 1 - lo ∧ s = ofN (List.range' lo k) ∧ i = .int .i64 (lo + k : Nat) ∧ Box wr w.heap.size Ws.nil ∧ Box wr (w.heap.size + 1) s ∧ Below w.heap.size w wr
set_option maxHeartbeats 2000000 in
theorem range_any (lo hi : Nat) (w : World) (hlo : lo < 256) (hhi : hi < 256) :
    Calls Try.prog 65 #[.int .u8 lo, .int .u8 hi] w fun e w' => e = .returned (rangeW lo hi).v ∧ Below w.heap.size w w' := by
  go_enter Try.func65, Try.ntmps65
  go_wp2
  go_loopw [6] (fun i wr => rangeInv lo hi w i wr) (fun i _ => hi + 1 - (intOf i).toNat)
  case atStart =>
    refine ⟨0, Ws.nil, Nat.zero_le _, rfl, rfl, (Box.zero w).alloc _, ?_, ((Below.refl _ w).alloc (Nat.le_refl _) _).alloc (by simp) _⟩
    have := Box.zero (w.alloc (.cells #[.int .u64 0, .int .u64 0, .int .u64 0, .int .u64 0] 24))
    simpa using this
  case round =>
    obtain ⟨k, s, hk, hs, rfl, hr, hB, hb⟩ := hrel
    obtain ⟨m, hm⟩ : ∃ m, m = lo + k := ⟨_, rfl⟩
    rw [← hm]
    have hsz := hb.size
    have hbs := hB.lt
    have hok : s.Ok := by rw [hs]; exact ofN_ok _
    have HS := Lib.hid hs
    have HM := Lib.hid hm
    have hm1 : m ≤ lo + k := by omega
    have hm2 : lo + k ≤ m := by omega
    clear hs hm
    obtain ⟨sa, sb, sc, sd⟩ := s
    by_cases hlt : m ≤ hi
    · have h255 : m < 256 := by omega
      have hsn : ofN (List.range' lo (k + 1)) = (Ws.mk sa sb sc sd).ins m := by rw [List.range'_concat, ofN_snoc, HS.out, HM.out]; simp
      obtain ⟨⟨c0, c1, c2, c3⟩, f0, f1, f2, f3⟩ := hB.all
      have HN := Lib.hid hsn
      clear hsn HS
      go_wp2_with fail
      refine (with_any ⟨sa, sb, sc, sd⟩ m _ hok h255).mono ?_
      rintro e w1 ⟨rfl, hb1⟩
      have hB1 := hB.below hb1 hbs
      have hr1 := hr.below hb1 (by omega)
      have hbw := hb.trans (hb1.mono hsz)
      clear c0 c1 c2 c3 f0 f1 f2 f3 hB hr hb1 hb
      obtain ⟨⟨c0, c1, c2, c3⟩, f0, f1, f2, f3⟩ := hB1.all
      generalize (Ws.mk sa sb sc sd).ins m = s' at *
      obtain ⟨ta, tb, tc, td⟩ := s'
      unfold Ws.v
      go_wp2
      refine ⟨⟨k + 1, ⟨ta, tb, tc, td⟩, by omega, HN.out.symm, by rw [HM.out]; go_num, ?_, hB1.put4 _ _ _ _, below_put hbw (by omega) _ _ _ _⟩, by simp [intOf]; omega⟩
      exact (((hr1.far (by simp) _).far (by simp) _).far (by simp) _).far (by simp) _
    · have he : k = hi + 1 - lo ∨ hi + 1 ≤ lo := by omega
      have HE : (⟨sa, sb, sc, sd⟩ : Ws) = rangeW lo hi := by
        rw [HS.out, rangeW]; congr 2; omega
      have HE' := Lib.hid HE
      clear HE he HS
      obtain ⟨⟨c0, c1, c2, c3⟩, f0, f1, f2, f3⟩ := hB.all
      obtain ⟨⟨d0, d1, d2, d3⟩, g0, g1, g2, g3⟩ := hr.all
      simp only [Ws.nil] at d0 d1 d2 d3
      go_wp2
      exact ret_box (hr.put4 _ _ _ _) Try.results65 rfl rfl ⟨by rw [← HE'.out], below_put hb (Nat.le_refl _) _ _ _ _⟩
end Go.Proofs.Ytiegejbbjlhpdaa
