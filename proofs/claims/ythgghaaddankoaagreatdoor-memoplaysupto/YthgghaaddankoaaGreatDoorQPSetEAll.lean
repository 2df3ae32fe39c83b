/- Lemmas of mine, merged: QPSetE, QPNullS, QPSetG, QPSetF, QPSetRg, QPOrdA, QPOrdT, QPOrdB, QPOrdC, QPOrdP, QPOrdG, QPStbM, QPMemD. -/
import Derived.StillTailTactics
import Derived.IntWalk
import Derived.LoopN
import Derived.Test.YthgghaaddankoaaGreatDoorQPSetCAll
import Derived.Test.YthgghaaddankoaaGreatDoorQPSetAAll
import Derived.Test.YthgghaaddankoaaGreatDoorQPFstIAll
import Derived.Test.YthgghaaddankoaaGreatDoorQPRexBAll
import Derived.Deep.QuietTactic
import Derived.BigQuiet
import Derived.RegionTactic
/- Lemmas of mine. -/
namespace Go.Proofs.YthgghaaddankoaaGreatDoor
open Go.RowKit
def SetsAt (w : World) (a : Option Addr) (l : List Ws) : Prop :=
  l.length ≤ maxLen ∧ (∀ s ∈ l, s.Ok) ∧ (l = [] ∨ ∃ b off, a = some ⟨b, off, none⟩ ∧ b < w.heap.size ∧ ∀ i (h : i < l.length), w.cell? ⟨b, off + i * 4, none⟩ = some (.int .u64 l[i].a) ∧ w.cell? ⟨b, off + i * 4 + 1, none⟩ = some (.int .u64 l[i].b) ∧ w.cell? ⟨b, off + i * 4 + 2, none⟩ = some (.int .u64 l[i].c) ∧ w.cell? ⟨b, off + i * 4 + 3, none⟩ = some (.int .u64 l[i].d))
theorem SetsAt.below {w w' : World} {a : Option Addr} {l : List Ws} (h : SetsAt w a l) (hb : Below w.heap.size w w') : SetsAt w' a l := by
  obtain ⟨h2, ho, h3⟩ := h; refine ⟨h2, ho, ?_⟩
  rcases h3 with h3 | ⟨b, off, rfl, hlt, hc⟩
  · exact .inl h3
  · refine .inr ⟨b, off, rfl, Nat.lt_of_lt_of_le hlt hb.size, fun i h => ?_⟩; rw [hb.cell (p := ⟨b, off + i * 4, none⟩) hlt, hb.cell (p := ⟨b, off + i * 4 + 1, none⟩) hlt, hb.cell (p := ⟨b, off + i * 4 + 2, none⟩) hlt, hb.cell (p := ⟨b, off + i * 4 + 3, none⟩) hlt]; exact hc i h
theorem SetsAt.elem {w w' : World} {a : Option Addr} {l : List Ws} (h : SetsAt w a l) (hb : Below w.heap.size w w') {k : Nat} (hk : k < l.length) :
    ∃ b off s, a = some ⟨b, off, none⟩ ∧ b < w.heap.size ∧ l[k]? = some s ∧ s.Ok ∧ w'.cell? ⟨b, off + k * 4, none⟩ = some (.int .u64 s.a) ∧ w'.cell? ⟨b, off + k * 4 + 1, none⟩ = some (.int .u64 s.b) ∧ w'.cell? ⟨b, off + k * 4 + 2, none⟩ = some (.int .u64 s.c) ∧ w'.cell? ⟨b, off + k * 4 + 3, none⟩ = some (.int .u64 s.d) := by
  obtain ⟨_, ho, h3⟩ := h.below hb; obtain ⟨_, _, h3'⟩ := h
  rcases h3 with h3 | ⟨b, off, rfl, _, hc⟩
  · subst h3; simp at hk
  · rcases h3' with h3' | ⟨b', off', he, hlt, _⟩
    · subst h3'; simp at hk
    · injection he with he; injection he with he1 he2; subst he1; subst he2; exact ⟨b, off, l[k], rfl, hlt, List.getElem?_eq_getElem hk, ho _ (List.getElem_mem hk), hc k hk⟩
def foldInv (f : Ws → Ws → Ws) (z : Ws) (l : List Ws) (w : World) (g : Nat) (i : Value) (wr : World) : Prop := ∃ (k : Nat) (s : Ws), k ≤ l.length ∧ s = (l.take k).foldl f z ∧ i = .int .i64 k ∧ Box wr w.heap.size Ws.nil ∧ Box wr g s ∧ Below w.heap.size w wr
theorem fold_take {f : Ws → Ws → Ws} {z : Ws} {l : List Ws} {k : Nat} {s : Ws} (h : l[k]? = some s) : (l.take (k + 1)).foldl f z = f ((l.take k).foldl f z) s := by
  rw [List.take_add_one, h]; simp
theorem fold_ok {f : Ws → Ws → Ws} (hf : ∀ s t : Ws, s.Ok → t.Ok → (f s t).Ok) {z : Ws} (hz : z.Ok) {l : List Ws} (hl : ∀ s ∈ l, s.Ok) : (l.foldl f z).Ok := by
  induction l generalizing z with
  | nil => exact hz
  | cons x t ih => exact ih (hf _ _ hz (hl x (List.mem_cons_self ..))) fun s hs => hl s (List.mem_cons_of_mem _ hs)
set_option maxHeartbeats 1000000 in
theorem join_any (a : Option Addr) (l : List Ws) (cap : Nat) (w : World) (h : SetsAt w a l) :
    Calls Tryz.prog 97 #[.slice a l.length cap] w fun e w' => e = .returned (l.foldl Ws.join Ws.nil).v ∧ Below w.heap.size w w' := by
  have hS := Lib.hid h; have hl := h.1; unfold maxLen at hl; clear h; have i0 := idx0; have i1 := idx1; have i2 := idx2; have i3 := idx3; go_enter Tryz.func97, Tryz.ntmps97; go_wp2
  go_loopw [10] (fun i wr => foldInv Ws.join Ws.nil l w (w.heap.size + 1) i wr) (fun i _ => l.length - (intOf i).toNat)
  case atStart =>
    refine ⟨0, Ws.nil, Nat.zero_le _, rfl, rfl, (Box.zero w).alloc _, ?_, ((Below.refl _ w).alloc (Nat.le_refl _) _).alloc (by simp) _⟩; have := Box.zero (w.alloc (.cells #[.int .u64 0, .int .u64 0, .int .u64 0, .int .u64 0] 37))
    simpa using this
  case round =>
    obtain ⟨k, s, hk, hs, rfl, hr, hB, hb⟩ := hrel; have hsz := hb.size; have hbs := hB.lt
    have hok : s.Ok := by
      rw [hs]; exact fold_ok (fun s t hs ht => Ws.join_ok hs ht) Ws.nil_ok fun s hs => hS.out.2.1 s (List.mem_of_mem_take hs)
    have HS := Lib.hid hs; clear hs; obtain ⟨sa, sb, sc, sd⟩ := s; obtain ⟨h0, h1, h2, h3⟩ := hok; simp only at h0 h1 h2 h3
    by_cases hlt : k < l.length
    · obtain ⟨b, off, t, hab, hblt, hlk, htk, z0, z1, z2, z3⟩ := hS.out.elem hb hlt; obtain ⟨ta, tb, tc, td⟩ := t; obtain ⟨k0, k1, k2, k3⟩ := htk; simp only at k0 k1 k2 k3; subst hab; have e0 := Lib.hid (u64_or_nat sa ta h0 k0); have e1 := Lib.hid (u64_or_nat sb tb h1 k1); have e2 := Lib.hid (u64_or_nat sc tc h2 k2); have e3 := Lib.hid (u64_or_nat sd td h3 k3); (have hn : (l.take (k + 1)).foldl Ws.join Ws.nil = (Ws.mk sa sb sc sd).join ⟨ta, tb, tc, td⟩ := by rw [fold_take hlk, HS.out]); have HN := Lib.hid hn; clear hn hlk HS; obtain ⟨⟨c0, c1, c2, c3⟩, f0, f1, f2, f3⟩ := hB.all; simp only at c0 c1 c2 c3 z0 z1 z2 z3; go_wp2; refine wp_loop_rounds 5 ?_; rw [rounds_succ]; go_wp2; rw [rounds_succ]; go_wp2; rw [rounds_succ]; go_wp2; rw [rounds_succ]; go_wp2; rw [rounds_succ]; go_wp2; rw [e0.out, e1.out, e2.out, e3.out]; refine ⟨⟨k + 1, _, by omega, HN.out.symm, by go_num, ?_, (hB.put4 _ _ _ _).alloc _, (below_put hb (by omega) _ _ _ _).alloc (by simp; omega) _⟩, by simp [intOf]; omega⟩; exact ((((hr.far (by simp) _).far (by simp) _).far (by simp) _).far (by simp) _).alloc _
    · have he : l.take k = l := List.take_of_length_le (by omega); rw [he] at HS; clear he; obtain ⟨⟨c0, c1, c2, c3⟩, f0, f1, f2, f3⟩ := hB.all; obtain ⟨⟨d0, d1, d2, d3⟩, g0, g1, g2, g3⟩ := hr.all; simp only [Ws.nil] at d0 d1 d2 d3; go_wp2; exact ret_box (hr.put4 _ _ _ _) Tryz.results97 rfl rfl ⟨by rw [← HS.out], below_put hb (Nat.le_refl _) _ _ _ _⟩
set_option maxHeartbeats 1000000 in
theorem everyByte_any (w : World) :
    Calls Tryz.prog 112 #[] w fun e w' => e = .returned Ws.full.v ∧ Below w.heap.size w w' := by
  go_enter Tryz.func112, Tryz.ntmps112; go_wp2; exact ret_box (Box.new4 w 18446744073709551615 18446744073709551615 18446744073709551615 18446744073709551615) Tryz.results112 rfl rfl ⟨rfl, (Below.refl _ w).alloc (Nat.le_refl _) _⟩
open Go.RowKit
theorem bel_al (w : World) (o : Obj) : Below w.heap.size w (w.alloc o) := (Below.refl _ w).alloc (Nat.le_refl _) o
open Go.RowKit
theorem isNaN_any (x : Nat) (w : World) :
    Calls Tryz.prog 174 #[.int .u64 x] w fun e w' => e = .returned (.bool false) ∧ w = w' := by
  go_enter Tryz.func174, Tryz.ntmps174; go_wp2; go_ret; exact ⟨rfl, rfl⟩
set_option maxHeartbeats 1000000 in
theorem compare_any (x y : Nat) (c : Int) (h : cmpN x y = c) (w : World) :
    Calls Tryz.prog 150 #[.int .u64 x, .int .u64 y] w fun e w' => e = .returned (.int .i64 c) ∧ w' = w := by
  subst h; unfold cmpN
  by_cases h1 : x < y
  · rw [if_pos h1]; go_enter Tryz.func150, Tryz.ntmps150; go_wp2_with fail; refine (isNaN_any x _).mono ?_; rintro e w1 ⟨rfl, rfl⟩; go_wp2_with fail; refine (isNaN_any y _).mono ?_; rintro e w1 ⟨rfl, rfl⟩; go_wp2; go_ret; exact ⟨rfl, rfl⟩
  · rw [if_neg h1]
    by_cases h2 : y < x
    · rw [if_pos h2]; go_enter Tryz.func150, Tryz.ntmps150; go_wp2_with fail; refine (isNaN_any x _).mono ?_; rintro e w1 ⟨rfl, rfl⟩; go_wp2_with fail; refine (isNaN_any y _).mono ?_; rintro e w1 ⟨rfl, rfl⟩; go_wp2; go_ret; exact ⟨rfl, rfl⟩
    · rw [if_neg h2]; go_enter Tryz.func150, Tryz.ntmps150; go_wp2_with fail; refine (isNaN_any x _).mono ?_; rintro e w1 ⟨rfl, rfl⟩; go_wp2_with fail; refine (isNaN_any y _).mono ?_; rintro e w1 ⟨rfl, rfl⟩; go_wp2; go_ret; exact ⟨rfl, rfl⟩
theorem ord_at {s t : Ws} {k : Nat} {c : Int} (hk : k < 4) (h : ∀ j, j < k → s.get j = t.get j) (hc : cmpN (s.get k) (t.get k) = c) (h0 : c ≠ 0) : ordW s t = c := by
  obtain ⟨a, b, c', d⟩ := s; obtain ⟨a', b', c'', d'⟩ := t
  have hne : (Ws.get ⟨a, b, c', d⟩ k) ≠ Ws.get ⟨a', b', c'', d'⟩ k := by
    intro e; rw [e] at hc; exact h0 (hc.symm.trans (cmpN_zero.2 rfl))
  subst hc; (have hq : k = 0 ∨ k = 1 ∨ k = 2 ∨ k = 3 := by omega)
  rcases hq with rfl | rfl | rfl | rfl
  · simp [Ws.get] at hne; simp [ordW, Ws.get, hne]
  · have e0 := h 0 (by decide); simp [Ws.get] at hne e0; simp [ordW, Ws.get, hne, e0]
  · have e0 := h 0 (by decide); have e1 := h 1 (by decide); simp [Ws.get] at hne e0 e1; simp [ordW, Ws.get, hne, e0, e1]
  · have e0 := h 0 (by decide); have e1 := h 1 (by decide); have e2 := h 2 (by decide); simp [Ws.get] at hne e0 e1 e2; simp [ordW, Ws.get, e0, e1, e2]
theorem ord_all {s t : Ws} (h : ∀ j, j < 4 → s.get j = t.get j) : ordW s t = 0 := (ordW_zero s t).2 (Ws.get_ext h)
theorem cmpN_cases (x y : Nat) : cmpN x y = 0 ∨ cmpN x y = -1 ∨ cmpN x y = 1 := by unfold cmpN; split <;> (try split) <;> simp
theorem cmpN_lt {x y : Nat} (h : cmpN x y = -1) : x < y := by unfold cmpN at h; split at h <;> (try split at h) <;> first | assumption | omega
theorem cmpN_gt {x y : Nat} (h : cmpN x y = 1) : y < x := by unfold cmpN at h; split at h <;> (try split at h) <;> first | assumption | omega
theorem get_step {s t : Ws} {k : Nat} (h : ∀ j, j < k → s.get j = t.get j) (e : s.get k = t.get k) : ∀ j, j < k + 1 → s.get j = t.get j := by
  intro j hj
  by_cases h1 : j = k
  · rw [h1]; exact e
  · exact h j (by omega)
def ordInv (s t : Ws) (w : World) (i : Value) (wr : World) : Prop := ∃ k : Nat, k ≤ 4 ∧ i = .int .i64 k ∧ (∀ j, j < k → s.get j = t.get j) ∧ Box wr w.heap.size s ∧ Box wr (w.heap.size + 1) t ∧ Below w.heap.size w wr
theorem below_drewN {B : Nat} {w w' : World} (h : Below B w w') (n : Nat) : Below B w (w'.drewN n) := ⟨h.os, h.tape, h.output, h.size, h.block⟩
set_option maxHeartbeats 2000000 in
theorem order_any (s t : Ws) (w : World) :
    Calls Tryz.prog 137 #[s.v, t.v] w fun e w' => e = .returned (.int .i64 (ordW s t)) ∧ Below w.heap.size w w' := by
  obtain ⟨a, b, c, d⟩ := s; obtain ⟨a', b', c', d'⟩ := t; unfold Ws.v; go_enter Tryz.func137, Tryz.ntmps137; go_wp2
  go_loopw [7] (fun i wr => ordInv ⟨a, b, c, d⟩ ⟨a', b', c', d'⟩ w i wr) (fun i _ => 4 - (intOf i).toNat)
  case atStart =>
    refine ⟨0, Nat.zero_le _, rfl, fun j hj => by omega, (Box.new4 w _ _ _ _).alloc _, ?_, ((Below.refl _ w).alloc (Nat.le_refl _) _).alloc (by simp) _⟩; have := Box.new4 (w.alloc (.cells #[.int .u64 a, .int .u64 b, .int .u64 c, .int .u64 d] 37)) a' b' c' d'
    simpa using this
  case round =>
    obtain ⟨k, hk, rfl, he, hx, hy, hb⟩ := hrel; have HE := Lib.hid he; clear he; obtain ⟨⟨c0, c1, c2, c3⟩, -⟩ := hx.all; obtain ⟨⟨d0, d1, d2, d3⟩, -⟩ := hy.all; (have hq : k = 0 ∨ k = 1 ∨ k = 2 ∨ k = 3 ∨ k = 4 := by omega)
    rcases hq with rfl | rfl | rfl | rfl | rfl
    · rcases cmpN_cases a a' with h1 | h1 | h1
      · have H1 := Lib.hid h1; clear h1; go_wp2_with fail
        go_quiet ((go_at_call 150; exact Calls.quiet_of_same (compare_any _ _ _ H1.out _)))
        go_wp2; refine ⟨⟨1, by decide, rfl, ?_, hx.drewN _, hy.drewN _, below_drewN hb _⟩, by simp [intOf]⟩; exact get_step HE.out (cmpN_zero.1 H1.out)
      · have H1 := Lib.hid h1; clear h1; go_wp2_with fail
        go_quiet ((go_at_call 150; exact Calls.quiet_of_same (compare_any _ _ _ H1.out _)))
        go_wp2; go_ret; exact ⟨by rw [ord_at (by decide) HE.out H1.out (by decide)]; rfl, below_drewN hb _⟩
      · have H1 := Lib.hid h1; clear h1; go_wp2_with fail
        go_quiet ((go_at_call 150; exact Calls.quiet_of_same (compare_any _ _ _ H1.out _)))
        go_wp2; go_ret; exact ⟨by rw [ord_at (by decide) HE.out H1.out (by decide)]; rfl, below_drewN hb _⟩
    · rcases cmpN_cases b b' with h1 | h1 | h1
      · have H1 := Lib.hid h1; clear h1; go_wp2_with fail
        go_quiet ((go_at_call 150; exact Calls.quiet_of_same (compare_any _ _ _ H1.out _)))
        go_wp2; refine ⟨⟨2, by decide, rfl, ?_, hx.drewN _, hy.drewN _, below_drewN hb _⟩, by simp [intOf]⟩; exact get_step HE.out (cmpN_zero.1 H1.out)
      · have H1 := Lib.hid h1; clear h1; go_wp2_with fail
        go_quiet ((go_at_call 150; exact Calls.quiet_of_same (compare_any _ _ _ H1.out _)))
        go_wp2; go_ret; exact ⟨by rw [ord_at (by decide) HE.out H1.out (by decide)]; rfl, below_drewN hb _⟩
      · have H1 := Lib.hid h1; clear h1; go_wp2_with fail
        go_quiet ((go_at_call 150; exact Calls.quiet_of_same (compare_any _ _ _ H1.out _)))
        go_wp2; go_ret; exact ⟨by rw [ord_at (by decide) HE.out H1.out (by decide)]; rfl, below_drewN hb _⟩
    · rcases cmpN_cases c c' with h1 | h1 | h1
      · have H1 := Lib.hid h1; clear h1; go_wp2_with fail
        go_quiet ((go_at_call 150; exact Calls.quiet_of_same (compare_any _ _ _ H1.out _)))
        go_wp2; refine ⟨⟨3, by decide, rfl, ?_, hx.drewN _, hy.drewN _, below_drewN hb _⟩, by simp [intOf]⟩; exact get_step HE.out (cmpN_zero.1 H1.out)
      · have H1 := Lib.hid h1; clear h1; go_wp2_with fail
        go_quiet ((go_at_call 150; exact Calls.quiet_of_same (compare_any _ _ _ H1.out _)))
        go_wp2; go_ret; exact ⟨by rw [ord_at (by decide) HE.out H1.out (by decide)]; rfl, below_drewN hb _⟩
      · have H1 := Lib.hid h1; clear h1; go_wp2_with fail
        go_quiet ((go_at_call 150; exact Calls.quiet_of_same (compare_any _ _ _ H1.out _)))
        go_wp2; go_ret; exact ⟨by rw [ord_at (by decide) HE.out H1.out (by decide)]; rfl, below_drewN hb _⟩
    · rcases cmpN_cases d d' with h1 | h1 | h1
      · have H1 := Lib.hid h1; clear h1; go_wp2_with fail
        go_quiet ((go_at_call 150; exact Calls.quiet_of_same (compare_any _ _ _ H1.out _)))
        go_wp2; refine ⟨⟨4, by decide, rfl, ?_, hx.drewN _, hy.drewN _, below_drewN hb _⟩, by simp [intOf]⟩; exact get_step HE.out (cmpN_zero.1 H1.out)
      · have H1 := Lib.hid h1; clear h1; go_wp2_with fail
        go_quiet ((go_at_call 150; exact Calls.quiet_of_same (compare_any _ _ _ H1.out _)))
        go_wp2; go_ret; exact ⟨by rw [ord_at (by decide) HE.out H1.out (by decide)]; rfl, below_drewN hb _⟩
      · have H1 := Lib.hid h1; clear h1; go_wp2_with fail
        go_quiet ((go_at_call 150; exact Calls.quiet_of_same (compare_any _ _ _ H1.out _)))
        go_wp2; go_ret; exact ⟨by rw [ord_at (by decide) HE.out H1.out (by decide)]; rfl, below_drewN hb _⟩
    · go_wp2; go_ret; exact ⟨by rw [ord_all HE.out]; rfl, hb⟩
set_option maxHeartbeats 2000000 in
theorem refOrder_any (s t : Ws) (w : World) :
    Calls Tryz.prog 123 #[s.v, t.v] w fun e w' => e = .returned (.int .i64 (ordW s t)) ∧ Below w.heap.size w w' := by
  obtain ⟨a, b, c, d⟩ := s; obtain ⟨a', b', c', d'⟩ := t; unfold Ws.v; go_enter Tryz.func123, Tryz.ntmps123; go_wp2
  go_loopw [5] (fun i wr => ordInv ⟨a, b, c, d⟩ ⟨a', b', c', d'⟩ w i wr) (fun i _ => 4 - (intOf i).toNat)
  case atStart =>
    refine ⟨0, Nat.zero_le _, rfl, fun j hj => by omega, (Box.new4 w _ _ _ _).alloc _, ?_, ((Below.refl _ w).alloc (Nat.le_refl _) _).alloc (by simp) _⟩; have := Box.new4 (w.alloc (.cells #[.int .u64 a, .int .u64 b, .int .u64 c, .int .u64 d] 37)) a' b' c' d'
    simpa using this
  case round =>
    obtain ⟨k, hk, rfl, he, hx, hy, hb⟩ := hrel; have HE := Lib.hid he; clear he; obtain ⟨⟨c0, c1, c2, c3⟩, -⟩ := hx.all; obtain ⟨⟨d0, d1, d2, d3⟩, -⟩ := hy.all; (have hq : k = 0 ∨ k = 1 ∨ k = 2 ∨ k = 3 ∨ k = 4 := by omega)
    rcases hq with rfl | rfl | rfl | rfl | rfl
    · rcases cmpN_cases a a' with h1 | h1 | h1
      · have H1 := Lib.hid h1; (have hlt1 : ¬ a < a' := by have := cmpN_zero.1 h1; omega); (have hlt2 : ¬ a' < a := by have := cmpN_zero.1 h1; omega); clear h1; go_wp2_with fail
        go_quiet (fail)
        replace hx := hx.drewN nq; replace hy := hy.drewN nq; replace hb := below_drewN hb nq; clear c0 c1 c2 c3 d0 d1 d2 d3; generalize wr.drewN nq = w2 at *; obtain ⟨⟨c0, c1, c2, c3⟩, -⟩ := hx.all; obtain ⟨⟨d0, d1, d2, d3⟩, -⟩ := hy.all; go_wp2_with fail
        go_quiet (fail)
        go_wp2; refine ⟨⟨1, by decide, rfl, ?_, hx.drewN _, hy.drewN _, below_drewN hb _⟩, by simp [intOf]⟩; exact get_step HE.out (cmpN_zero.1 H1.out)
      · have H1 := Lib.hid h1; have hlt1 : a < a' := cmpN_lt h1; clear h1; go_wp2_with fail
        go_quiet (fail)
        go_wp2; go_ret; exact ⟨by rw [ord_at (by decide) HE.out H1.out (by decide)]; rfl, below_drewN hb _⟩
      · have H1 := Lib.hid h1; (have hlt1 : ¬ a < a' := by have := cmpN_gt h1; omega); have hlt2 : a' < a := cmpN_gt h1; clear h1; go_wp2_with fail
        go_quiet (fail)
        replace hx := hx.drewN nq; replace hy := hy.drewN nq; replace hb := below_drewN hb nq; clear c0 c1 c2 c3 d0 d1 d2 d3; generalize wr.drewN nq = w2 at *; obtain ⟨⟨c0, c1, c2, c3⟩, -⟩ := hx.all; obtain ⟨⟨d0, d1, d2, d3⟩, -⟩ := hy.all; go_wp2_with fail
        go_quiet (fail)
        go_wp2; go_ret; exact ⟨by rw [ord_at (by decide) HE.out H1.out (by decide)]; rfl, below_drewN hb _⟩
    · rcases cmpN_cases b b' with h1 | h1 | h1
      · have H1 := Lib.hid h1; (have hlt1 : ¬ b < b' := by have := cmpN_zero.1 h1; omega); (have hlt2 : ¬ b' < b := by have := cmpN_zero.1 h1; omega); clear h1; go_wp2_with fail
        go_quiet (fail)
        replace hx := hx.drewN nq; replace hy := hy.drewN nq; replace hb := below_drewN hb nq; clear c0 c1 c2 c3 d0 d1 d2 d3; generalize wr.drewN nq = w2 at *; obtain ⟨⟨c0, c1, c2, c3⟩, -⟩ := hx.all; obtain ⟨⟨d0, d1, d2, d3⟩, -⟩ := hy.all; go_wp2_with fail
        go_quiet (fail)
        go_wp2; refine ⟨⟨2, by decide, rfl, ?_, hx.drewN _, hy.drewN _, below_drewN hb _⟩, by simp [intOf]⟩; exact get_step HE.out (cmpN_zero.1 H1.out)
      · have H1 := Lib.hid h1; have hlt1 : b < b' := cmpN_lt h1; clear h1; go_wp2_with fail
        go_quiet (fail)
        go_wp2; go_ret; exact ⟨by rw [ord_at (by decide) HE.out H1.out (by decide)]; rfl, below_drewN hb _⟩
      · have H1 := Lib.hid h1; (have hlt1 : ¬ b < b' := by have := cmpN_gt h1; omega); have hlt2 : b' < b := cmpN_gt h1; clear h1; go_wp2_with fail
        go_quiet (fail)
        replace hx := hx.drewN nq; replace hy := hy.drewN nq; replace hb := below_drewN hb nq; clear c0 c1 c2 c3 d0 d1 d2 d3; generalize wr.drewN nq = w2 at *; obtain ⟨⟨c0, c1, c2, c3⟩, -⟩ := hx.all; obtain ⟨⟨d0, d1, d2, d3⟩, -⟩ := hy.all; go_wp2_with fail
        go_quiet (fail)
        go_wp2; go_ret; exact ⟨by rw [ord_at (by decide) HE.out H1.out (by decide)]; rfl, below_drewN hb _⟩
    · rcases cmpN_cases c c' with h1 | h1 | h1
      · have H1 := Lib.hid h1; (have hlt1 : ¬ c < c' := by have := cmpN_zero.1 h1; omega); (have hlt2 : ¬ c' < c := by have := cmpN_zero.1 h1; omega); clear h1; go_wp2_with fail
        go_quiet (fail)
        replace hx := hx.drewN nq; replace hy := hy.drewN nq; replace hb := below_drewN hb nq; clear c0 c1 c2 c3 d0 d1 d2 d3; generalize wr.drewN nq = w2 at *; obtain ⟨⟨c0, c1, c2, c3⟩, -⟩ := hx.all; obtain ⟨⟨d0, d1, d2, d3⟩, -⟩ := hy.all; go_wp2_with fail
        go_quiet (fail)
        go_wp2; refine ⟨⟨3, by decide, rfl, ?_, hx.drewN _, hy.drewN _, below_drewN hb _⟩, by simp [intOf]⟩; exact get_step HE.out (cmpN_zero.1 H1.out)
      · have H1 := Lib.hid h1; have hlt1 : c < c' := cmpN_lt h1; clear h1; go_wp2_with fail
        go_quiet (fail)
        go_wp2; go_ret; exact ⟨by rw [ord_at (by decide) HE.out H1.out (by decide)]; rfl, below_drewN hb _⟩
      · have H1 := Lib.hid h1; (have hlt1 : ¬ c < c' := by have := cmpN_gt h1; omega); have hlt2 : c' < c := cmpN_gt h1; clear h1; go_wp2_with fail
        go_quiet (fail)
        replace hx := hx.drewN nq; replace hy := hy.drewN nq; replace hb := below_drewN hb nq; clear c0 c1 c2 c3 d0 d1 d2 d3; generalize wr.drewN nq = w2 at *; obtain ⟨⟨c0, c1, c2, c3⟩, -⟩ := hx.all; obtain ⟨⟨d0, d1, d2, d3⟩, -⟩ := hy.all; go_wp2_with fail
        go_quiet (fail)
        go_wp2; go_ret; exact ⟨by rw [ord_at (by decide) HE.out H1.out (by decide)]; rfl, below_drewN hb _⟩
    · rcases cmpN_cases d d' with h1 | h1 | h1
      · have H1 := Lib.hid h1; (have hlt1 : ¬ d < d' := by have := cmpN_zero.1 h1; omega); (have hlt2 : ¬ d' < d := by have := cmpN_zero.1 h1; omega); clear h1; go_wp2_with fail
        go_quiet (fail)
        replace hx := hx.drewN nq; replace hy := hy.drewN nq; replace hb := below_drewN hb nq; clear c0 c1 c2 c3 d0 d1 d2 d3; generalize wr.drewN nq = w2 at *; obtain ⟨⟨c0, c1, c2, c3⟩, -⟩ := hx.all; obtain ⟨⟨d0, d1, d2, d3⟩, -⟩ := hy.all; go_wp2_with fail
        go_quiet (fail)
        go_wp2; refine ⟨⟨4, by decide, rfl, ?_, hx.drewN _, hy.drewN _, below_drewN hb _⟩, by simp [intOf]⟩; exact get_step HE.out (cmpN_zero.1 H1.out)
      · have H1 := Lib.hid h1; have hlt1 : d < d' := cmpN_lt h1; clear h1; go_wp2_with fail
        go_quiet (fail)
        go_wp2; go_ret; exact ⟨by rw [ord_at (by decide) HE.out H1.out (by decide)]; rfl, below_drewN hb _⟩
      · have H1 := Lib.hid h1; (have hlt1 : ¬ d < d' := by have := cmpN_gt h1; omega); have hlt2 : d' < d := cmpN_gt h1; clear h1; go_wp2_with fail
        go_quiet (fail)
        replace hx := hx.drewN nq; replace hy := hy.drewN nq; replace hb := below_drewN hb nq; clear c0 c1 c2 c3 d0 d1 d2 d3; generalize wr.drewN nq = w2 at *; obtain ⟨⟨c0, c1, c2, c3⟩, -⟩ := hx.all; obtain ⟨⟨d0, d1, d2, d3⟩, -⟩ := hy.all; go_wp2_with fail
        go_quiet (fail)
        go_wp2; go_ret; exact ⟨by rw [ord_at (by decide) HE.out H1.out (by decide)]; rfl, below_drewN hb _⟩
    · go_wp2; go_ret; exact ⟨by rw [ord_all HE.out]; rfl, hb⟩
open Go.RowKit
def pick (p : Nat → Bool) (z : Ws) (k : Nat) : Ws := (List.range k).foldl (fun s n => if p n = true then s.ins n else s) z
theorem pick_succ (p : Nat → Bool) (z : Ws) (k : Nat) : pick p z (k + 1) = if p k = true then (pick p z k).ins k else pick p z k := by
  unfold pick; rw [List.range_succ, List.foldl_append]; rfl
theorem pick_ok (p : Nat → Bool) {z : Ws} (hz : z.Ok) (k : Nat) : (pick p z k).Ok := by
  induction k with
  | zero => exact hz
  | succ k ih => rw [pick_succ]; split
                 · exact Ws.ins_ok ih k
                 · exact ih
theorem pick_has (p : Nat → Bool) (z : Ws) (k : Nat) (hk : k ≤ 256) (m : Nat) (hm : m < 256) : (pick p z k).has m = (z.has m || (decide (m < k) && p m)) := by
  induction k with
  | zero => simp [pick]
  | succ k ih =>
    rw [pick_succ]; have ih := ih (by omega)
    split
    · rename_i h
      rw [Ws.has_ins _ _ _ (by omega) hm, ih]
      by_cases e : k = m
      · subst e; simp [h]
      · (have : decide (m < k + 1) = decide (m < k) := by rw [decide_eq_decide]; omega); simp [e, this]
    · rename_i h
      rw [ih]
      by_cases e : k = m
      · subst e; simp [h]
      · (have : decide (m < k + 1) = decide (m < k) := by rw [decide_eq_decide]; omega); rw [this]
theorem pick_join {s t : Ws} (hs : s.Ok) (ht : t.Ok) : pick t.has s 256 = s.join t := by
  apply Ws.has_ext (pick_ok _ hs 256) (Ws.join_ok hs ht)
  intro n hn; rw [pick_has _ _ _ (Nat.le_refl _) n hn, Ws.has_join]; simp [hn]
def pickInv (p : Nat → Bool) (z s t : Ws) (w : World) (i : Value) (wr : World) : Prop := ∃ (k : Nat) (u : Ws), k ≤ 256 ∧ u = pick p z k ∧ i = .int .i64 k ∧ Box wr w.heap.size s ∧ Box wr (w.heap.size + 1) t ∧ Box wr (w.heap.size + 1 + 1) Ws.nil ∧ Box wr (w.heap.size + 1 + 1 + 1) u ∧ Below w.heap.size w wr
set_option maxHeartbeats 2000000 in
theorem refJoin_any (s t : Ws) (w : World) (hs : s.Ok) (ht : t.Ok) :
    Calls Tryz.prog 66 #[s.v, t.v] w fun e w' => e = .returned (s.join t).v ∧ Below w.heap.size w w' := by
  rw [← pick_join hs ht]; obtain ⟨a, b, c, d⟩ := s; obtain ⟨a', b', c', d'⟩ := t; unfold Ws.v; go_enter Tryz.func66, Tryz.ntmps66; go_wp2
  go_loopw [6] (fun i wr => pickInv (Ws.has ⟨a', b', c', d'⟩) ⟨a, b, c, d⟩ ⟨a, b, c, d⟩ ⟨a', b', c', d'⟩ w i wr) (fun i _ => 256 - (intOf i).toNat)
  case atStart =>
    refine ⟨0, ⟨a, b, c, d⟩, Nat.zero_le _, rfl, rfl, (((Box.new4 w _ _ _ _).alloc _).alloc _).alloc _, ?_, ?_, ?_, ((((Below.refl _ w).alloc (Nat.le_refl _) _).alloc (by simp) _).alloc (by simp; omega) _).alloc (by simp; omega) _⟩
    · have := ((Box.new4 (w.alloc (.cells #[.int .u64 a, .int .u64 b, .int .u64 c, .int .u64 d] 37)) a' b' c' d').alloc (.cells #[.int .u64 0, .int .u64 0, .int .u64 0, .int .u64 0] 37)).alloc (.cells #[.int .u64 a, .int .u64 b, .int .u64 c, .int .u64 d] 37)
      simpa using this
    · have := (Box.zero ((w.alloc (.cells #[.int .u64 a, .int .u64 b, .int .u64 c, .int .u64 d] 37)).alloc (.cells #[.int .u64 a', .int .u64 b', .int .u64 c', .int .u64 d'] 37))).alloc (.cells #[.int .u64 a, .int .u64 b, .int .u64 c, .int .u64 d] 37)
      simpa using this
    · have := Box.new4 (((w.alloc (.cells #[.int .u64 a, .int .u64 b, .int .u64 c, .int .u64 d] 37)).alloc (.cells #[.int .u64 a', .int .u64 b', .int .u64 c', .int .u64 d'] 37)).alloc (.cells #[.int .u64 0, .int .u64 0, .int .u64 0, .int .u64 0] 37)) a b c d
      simpa using this
  case round =>
    obtain ⟨k, u, hk, hu, rfl, hx, hy, hr, hB, hb⟩ := hrel; have hsz := hb.size; have hbs := hB.lt; (have hok : u.Ok := by rw [hu]; exact pick_ok _ hs _); have HU := Lib.hid hu; clear hu; obtain ⟨ua, ub, uc, ud⟩ := u
    by_cases hlt : k < 256
    · have hn := pick_succ (Ws.has ⟨a', b', c', d'⟩) ⟨a, b, c, d⟩ k; rw [← HU.out] at hn; obtain ⟨⟨c0, c1, c2, c3⟩, f0, f1, f2, f3⟩ := hy.all; (have hlt' : (k : Int) < 256 := by omega)
      by_cases hh : Ws.has ⟨a', b', c', d'⟩ k = true
      · rw [if_pos hh] at hn; have HN := Lib.hid hn; have HH := Lib.hid hh; clear hn hh HU; go_wp2_with fail; refine (refHas_any ⟨a', b', c', d'⟩ k _ ht hlt).mono ?_; rw [HH.out]; rintro e w1 ⟨rfl, hb1⟩; replace hx := hx.below hb1 (by omega); replace hy := hy.below hb1 (by omega); replace hr := hr.below hb1 (by omega); replace hB := hB.below hb1 hbs; replace hb := hb.trans (hb1.mono hsz); replace hbs := hB.lt; replace hsz := hb.size; clear c0 c1 c2 c3 f0 f1 f2 f3 hb1; obtain ⟨⟨c0, c1, c2, c3⟩, f0, f1, f2, f3⟩ := hB.all; go_wp2_with fail; refine (refWith_any ⟨ua, ub, uc, ud⟩ k _ hok hlt).mono ?_; rintro e w2 ⟨rfl, hb1⟩; replace hx := hx.below hb1 (by omega); replace hy := hy.below hb1 (by omega); replace hr := hr.below hb1 (by omega); replace hB := hB.below hb1 hbs; replace hb := hb.trans (hb1.mono hsz); clear c0 c1 c2 c3 f0 f1 f2 f3 hb1; obtain ⟨⟨c0, c1, c2, c3⟩, f0, f1, f2, f3⟩ := hB.all; generalize (Ws.mk ua ub uc ud).ins k = s' at *; obtain ⟨va, vb, vc, vd⟩ := s'; unfold Ws.v; go_wp2; (have n1 : w.heap.size ≠ w.heap.size + 1 + 1 + 1 := by omega); (have n2 : w.heap.size + 1 ≠ w.heap.size + 1 + 1 + 1 := by omega); (have n3 : w.heap.size + 1 + 1 ≠ w.heap.size + 1 + 1 + 1 := by omega); refine ⟨⟨k + 1, ⟨va, vb, vc, vd⟩, by omega, HN.out.symm, by go_num, ?_, ?_, ?_, hB.put4 _ _ _ _, below_put hb (by omega) _ _ _ _⟩, by simp [intOf]; omega⟩
        · exact (((hx.far n1 _).far n1 _).far n1 _).far n1 _
        · exact (((hy.far n2 _).far n2 _).far n2 _).far n2 _
        · exact (((hr.far n3 _).far n3 _).far n3 _).far n3 _
      · rw [if_neg hh] at hn; (have hh' : Ws.has ⟨a', b', c', d'⟩ k = false := by simpa using hh); have HN := Lib.hid hn; have HH := Lib.hid hh'; clear hn hh hh' HU; go_wp2_with fail; refine (refHas_any ⟨a', b', c', d'⟩ k _ ht hlt).mono ?_; rw [HH.out]; rintro e w1 ⟨rfl, hb1⟩; go_wp2; exact ⟨⟨k + 1, ⟨ua, ub, uc, ud⟩, by omega, HN.out.symm, by go_num, hx.below hb1 (by omega), hy.below hb1 (by omega), hr.below hb1 (by omega), hB.below hb1 hbs, hb.trans (hb1.mono hsz)⟩, by simp [intOf]; omega⟩
    · (obtain rfl : k = 256 := by omega); obtain ⟨⟨c0, c1, c2, c3⟩, f0, f1, f2, f3⟩ := hB.all; obtain ⟨⟨d0, d1, d2, d3⟩, g0, g1, g2, g3⟩ := hr.all; simp only [Ws.nil] at d0 d1 d2 d3; go_wp2; exact ret_box (hr.put4 _ _ _ _) Tryz.results66 rfl rfl ⟨by rw [← HU.out]; rfl, below_put hb (by omega) _ _ _ _⟩
open Go.RowKit
def rangeW (lo hi : Nat) : Ws := ofN (List.range' lo (hi + 1 - lo))
def rangeInv (lo hi : Nat) (w : World) (i : Value) (wr : World) : Prop := ∃ (k : Nat) (s : Ws), k ≤ hi + 1 - lo ∧ s = ofN (List.range' lo k) ∧ i = .int .i64 (lo + k : Nat) ∧ Box wr w.heap.size Ws.nil ∧ Box wr (w.heap.size + 1) s ∧ Below w.heap.size w wr
set_option maxHeartbeats 2000000 in
theorem range_any (lo hi : Nat) (w : World) (hlo : lo < 256) (hhi : hi < 256) :
    Calls Tryz.prog 81 #[.int .u8 lo, .int .u8 hi] w fun e w' => e = .returned (rangeW lo hi).v ∧ Below w.heap.size w w' := by
  go_enter Tryz.func81, Tryz.ntmps81; go_wp2
  go_loopw [6] (fun i wr => rangeInv lo hi w i wr) (fun i _ => hi + 1 - (intOf i).toNat)
  case atStart =>
    refine ⟨0, Ws.nil, Nat.zero_le _, rfl, rfl, (Box.zero w).alloc _, ?_, ((Below.refl _ w).alloc (Nat.le_refl _) _).alloc (by simp) _⟩; have := Box.zero (w.alloc (.cells #[.int .u64 0, .int .u64 0, .int .u64 0, .int .u64 0] 37))
    simpa using this
  case round =>
    obtain ⟨k, s, hk, hs, rfl, hr, hB, hb⟩ := hrel; obtain ⟨m, hm⟩ : ∃ m, m = lo + k := ⟨_, rfl⟩; rw [← hm]; have hsz := hb.size; have hbs := hB.lt; (have hok : s.Ok := by rw [hs]; exact ofN_ok _); have HS := Lib.hid hs; have HM := Lib.hid hm; (have hm1 : m ≤ lo + k := by omega); (have hm2 : lo + k ≤ m := by omega); clear hs hm; obtain ⟨sa, sb, sc, sd⟩ := s
    by_cases hlt : m ≤ hi
    · (have h255 : m < 256 := by omega); (have hsn : ofN (List.range' lo (k + 1)) = (Ws.mk sa sb sc sd).ins m := by rw [List.range'_concat, ofN_snoc, HS.out, HM.out]; simp); obtain ⟨⟨c0, c1, c2, c3⟩, f0, f1, f2, f3⟩ := hB.all; have HN := Lib.hid hsn; clear hsn HS; go_wp2_with fail; refine (with_any ⟨sa, sb, sc, sd⟩ m _ hok h255).mono ?_; rintro e w1 ⟨rfl, hb1⟩; have hB1 := hB.below hb1 hbs; have hr1 := hr.below hb1 (by omega); have hbw := hb.trans (hb1.mono hsz); clear c0 c1 c2 c3 f0 f1 f2 f3 hB hr hb1 hb; obtain ⟨⟨c0, c1, c2, c3⟩, f0, f1, f2, f3⟩ := hB1.all; generalize (Ws.mk sa sb sc sd).ins m = s' at *; obtain ⟨ta, tb, tc, td⟩ := s'; unfold Ws.v; go_wp2; refine ⟨⟨k + 1, ⟨ta, tb, tc, td⟩, by omega, HN.out.symm, by rw [HM.out]; go_num, ?_, hB1.put4 _ _ _ _, below_put hbw (by omega) _ _ _ _⟩, by simp [intOf]; omega⟩; exact (((hr1.far (by simp) _).far (by simp) _).far (by simp) _).far (by simp) _
    · (have he : k = hi + 1 - lo ∨ hi + 1 ≤ lo := by omega)
      have HE : (⟨sa, sb, sc, sd⟩ : Ws) = rangeW lo hi := by
        rw [HS.out, rangeW]; congr 2; omega
      have HE' := Lib.hid HE; clear HE he HS; obtain ⟨⟨c0, c1, c2, c3⟩, f0, f1, f2, f3⟩ := hB.all; obtain ⟨⟨d0, d1, d2, d3⟩, g0, g1, g2, g3⟩ := hr.all; simp only [Ws.nil] at d0 d1 d2 d3; go_wp2; exact ret_box (hr.put4 _ _ _ _) Tryz.results81 rfl rfl ⟨by rw [← HE'.out], below_put hb (Nat.le_refl _) _ _ _ _⟩
open Go.RowKit
theorem ordRs_drop : ∀ (i : Nat) (l m : List Rx), i ≤ l.length → i ≤ m.length → l.take i = m.take i → ordRs l m = ordRs (l.drop i) (m.drop i)
  | 0, _, _, _, _, _ => by simp
  | i + 1, [], _, h, _, _ => by simp at h
  | i + 1, _ :: _, [], _, h, _ => by simp at h
  | i + 1, a :: l, b :: m, h1, h2, h => by
    simp at h; obtain ⟨rfl, h⟩ := h; have ih := ordRs_drop i l m (by simpa using h1) (by simpa using h2) h; rw [ordRs, ordR_self]
    simpa [lexI] using ih
theorem ordRs_at {l m : List Rx} {i : Nat} (h1 : i < l.length) (h2 : i < m.length) (h : l.take i = m.take i) (hc : ordR l[i] m[i] ≠ 0) : ordRs l m = ordR l[i] m[i] := by
  rw [ordRs_drop i l m (by omega) (by omega) h, List.drop_eq_getElem_cons h1, List.drop_eq_getElem_cons h2, ordRs]; simp [lexI, hc]
theorem take_step {l m : List Rx} {i : Nat} (h1 : i < l.length) (h2 : i < m.length) (h : l.take i = m.take i) (hc : ordR l[i] m[i] = 0) : l.take (i + 1) = m.take (i + 1) := by
  rw [List.take_succ_eq_append_getElem h1, List.take_succ_eq_append_getElem h2, h, (ordR_zero _ _).1 hc]
theorem ordRs_more {l m : List Rx} (h1 : m.length < l.length) (h : l.take m.length = m.take m.length) : ordRs l m = 1 := by
  rw [ordRs_drop m.length l m (by omega) (Nat.le_refl _) h, List.drop_of_length_le (Nat.le_refl _), List.drop_eq_getElem_cons h1]
  rfl
theorem ordRs_less {l m : List Rx} (h1 : l.length < m.length) (h : l.take l.length = m.take l.length) : ordRs l m = -1 := by
  rw [ordRs_drop l.length l m (Nat.le_refl _) (by omega) h, List.drop_of_length_le (Nat.le_refl _), List.drop_eq_getElem_cons h1]
  rfl
theorem ordRs_same {l m : List Rx} (h1 : l.length = m.length) (h : l.take l.length = m.take l.length) : ordRs l m = 0 := by
  rw [List.take_of_length_le (Nat.le_refl _), List.take_of_length_le (by omega)] at h; exact (ordRs_zero l m).2 h
def twoInv (ks ks' : List Rx) (w : World) (v v' : Value) (y : Value) (wr : World) : Prop := ∃ i : Nat, i ≤ ks.length ∧ i ≤ ks'.length ∧ y = .int .i64 i ∧ ks.take i = ks'.take i ∧ wr.cell? ⟨w.heap.size, 5, none⟩ = some v ∧ wr.cell? ⟨w.heap.size + 1, 5, none⟩ = some v' ∧ Below w.heap.size w wr
set_option maxRecDepth 100000 in
set_option maxHeartbeats 4000000 in
theorem refTwo_any {ok ok' : Nat → Prop} (N : Nat) : ∀ (r t : Rx), r.size ≤ N → ∀ (v u : Value) (w : World), ReAt ok w v r → ReAt ok' w u t →
    Calls Tryz.prog 104 #[v, u] w fun e w' => e = .returned (.int .i64 (ordR r t)) ∧ Below w.heap.size w w' := by
  induction N with
  | zero => intro r _ h; have := r.size_pos; omega
  | succ N ih =>
    rintro ⟨k, s, ks⟩ ⟨k', s', ks'⟩ hN v u w hR hU; obtain ⟨hk, hs, al, cap, rfl, hcap, hmax, hrow⟩ := hR; obtain ⟨hk', hs', al', cap', rfl, hcap', hmax', hrow'⟩ := hU; (have hN' : Rx.sizes ks ≤ N := by simp [Rx.size] at hN; omega); have IH := Lib.hid ih; have HR := Lib.hid hrow; have HU := Lib.hid hrow'; have HORD := Lib.hid (show ordR (.node k s ks) (.node k' s' ks') = lexI (cmpN k k') (lexI (ordW s s') (ordRs ks ks')) from by simp [ordR]); have KO := Lib.hid fun W => refOrder_any s s' W; generalize ordR (.node k s ks) (.node k' s' ks') = ans at *; clear ih hrow hrow' hN
    by_cases hk1 : k < k'
    · (have d1 : decide ((k : Int) < (k' : Int)) = true := by simp; omega); have HA := Lib.hid (show ans = -1 from by rw [HORD.out]; simp [lexI, cmpN, hk1]); obtain ⟨sa, sb, sc, sd⟩ := s; obtain ⟨sa', sb', sc', sd'⟩ := s'; clear KO; go_enter Tryz.func104, Tryz.ntmps104; go_wp2; go_ret; exact ⟨by rw [HA.out]; rfl, ((Below.refl _ _).alloc (Nat.le_refl _) _).alloc (by simp) _⟩
    (have d1 : decide ((k : Int) < (k' : Int)) = false := by simp; omega)
    by_cases hk2 : k' < k
    · (have d2 : decide ((k' : Int) < (k : Int)) = true := by simp; omega); have HA := Lib.hid (show ans = 1 from by rw [HORD.out]; simp [lexI, cmpN, hk1, hk2]); obtain ⟨sa, sb, sc, sd⟩ := s; obtain ⟨sa', sb', sc', sd'⟩ := s'; clear KO; go_enter Tryz.func104, Tryz.ntmps104; go_wp2; go_ret; exact ⟨by rw [HA.out]; rfl, ((Below.refl _ _).alloc (Nat.le_refl _) _).alloc (by simp) _⟩
    (have d2 : decide ((k' : Int) < (k : Int)) = false := by simp; omega)
    have hans : ans = lexI (ordW s s') (ordRs ks ks') := by
      rw [HORD.out, show cmpN k k' = 0 from cmpN_zero.2 (by omega)]; simp [lexI]
    generalize ordW s s' = c at *; obtain ⟨sa, sb, sc, sd⟩ := s; obtain ⟨sa', sb', sc', sd'⟩ := s'; unfold Ws.v at KO; simp only at KO; clear HORD
    by_cases hc : c = 0
    · subst hc; have HANS := Lib.hid (show ans = ordRs ks ks' from by rw [hans]; simp [lexI]); clear hans; go_enter Tryz.func104, Tryz.ntmps104; go_wp2_with fail; refine (KO.out _).mono ?_; rintro e w1 ⟨rfl, hb1⟩; have hbw : Below w.heap.size w w1 := (((Below.refl _ w).alloc (Nat.le_refl _) _).alloc (by simp) _).trans (hb1.mono (by simp; omega))
      have x5 : w1.cell? ⟨w.heap.size, 5, none⟩ = some (.slice al ks.length cap) := by
        rw [Lib.cell_of_heap ((hb1.block _ (by simp; omega)).trans ((Below.heap_alloc _ _ _ (by simp)).trans (blk_new w _)))]; rfl
      have y5 : w1.cell? ⟨w.heap.size + 1, 5, none⟩ = some (.slice al' ks'.length cap') := by
        rw [Lib.cell_of_heap ((hb1.block _ (by simp)).trans (blk_at _ _ (by simp)))]; rfl
      have HX5 := Lib.hid x5; have HY5 := Lib.hid y5; clear hb1; go_wp2
      go_loopw [29] (fun y wr => twoInv ks ks' w (.slice al ks.length cap) (.slice al' ks'.length cap') y wr) (fun y _ => ks.length - (intOf y).toNat)
      case atStart => exact ⟨0, Nat.zero_le _, Nat.zero_le _, rfl, by simp, HX5.out, HY5.out, hbw⟩
      case round =>
        obtain ⟨i, hi, hi', rfl, htk, f5, g5, hb⟩ := hrel; have HTK := Lib.hid htk; clear htk x5 y5 hbw HX5 HY5
        by_cases hlt : i < ks.length
        · by_cases hlt' : i < ks'.length
          · (have e1 : ((i : Int) == (ks'.length : Int)) = false := by simp; omega); obtain ⟨b, off, hab, hblt, hnode⟩ := HR.out.kid hlt; obtain ⟨b', off', hab', hblt', hnode'⟩ := HU.out.kid hlt'; subst hab; subst hab'; have hkid := NodeAt.below hb _ hblt hnode; have hkid' := NodeAt.below hb _ hblt' hnode'; have hks := size_kid hlt; have HSA := fun h => ordRs_at hlt hlt' HTK.out h; have HSB := fun h => take_step hlt hlt' HTK.out h; generalize ks[i] = kid at *; generalize ks'[i] = kid' at *; obtain ⟨kk, ⟨ta, tb, tc, td⟩, kks⟩ := kid; obtain ⟨kk', ⟨ta', tb', tc', td'⟩, kks'⟩ := kid'; obtain ⟨bl, bcap, ⟨c0, c1, c2, c3, c4, c5⟩, hre⟩ := hkid.read; obtain ⟨bl', bcap', ⟨e0, e1', e2, e3, e4, e5⟩, hre'⟩ := hkid'.read; simp only at c0 c1 c2 c3 c4 c5 e0 e1' e2 e3 e4 e5; have KK := Lib.hid (IH.out _ _ (Nat.le_trans hks hN') _ _ wr.drew (hre.below (Below.refl _ _).drew) (hre'.below (Below.refl _ _).drew)); generalize ordR (Rx.node kk ⟨ta, tb, tc, td⟩ kks) (Rx.node kk' ⟨ta', tb', tc', td'⟩ kks') = q at *; have HSA' := Lib.hid HSA; have HSB' := Lib.hid HSB; clear hkid hkid' hnode hnode' HSA HSB hre hre' hks; (have q1 : (i : Int) < (ks.length : Int) := by omega); (have q2 : (i : Int) < (ks'.length : Int) := by omega); go_wp2_with fail
            go_still_tail 10, (by kernel_rfl)
            change wpList _ _ _ _ _ wr.drew
            go_wp2_with fail; refine KK.out.mono ?_; rintro e w1 ⟨rfl, hb1⟩; have f5' := hb1.cell (p := ⟨w.heap.size, 5, none⟩) (show w.heap.size < wr.drew.heap.size from box_lt f5); have g5' := hb1.cell (p := ⟨w.heap.size + 1, 5, none⟩) (show w.heap.size + 1 < wr.drew.heap.size from box_lt g5); rw [show wr.drew.cell? ⟨w.heap.size, 5, none⟩ = _ from f5] at f5'; rw [show wr.drew.cell? ⟨w.heap.size + 1, 5, none⟩ = _ from g5] at g5'; replace hb := hb.drew.trans (hb1.mono hb.drew.size); clear c0 c1 c2 c3 c4 c5 e0 e1' e2 e3 e4 e5 hb1 f5 g5
            by_cases hq : q = 0
            · subst hq; go_wp2; exact ⟨⟨i + 1, by omega, by omega, by go_num, HSB'.out trivial, f5', g5', hb⟩, by simp [intOf]; omega⟩
            · (have d3 : (q != 0) = true := by simp [hq]); have HA := Lib.hid (show ans = q from by rw [HANS.out]; exact HSA'.out hq); clear hq; go_wp2; go_ret; exact ⟨by rw [HA.out]; rfl, hb⟩
          · (have e1 : ((i : Int) == (ks'.length : Int)) = true := by simp; omega); (have hie : i = ks'.length := by omega); have HA := Lib.hid (show ans = 1 from by rw [HANS.out]; exact ordRs_more (by omega) (by rw [← hie]; exact HTK.out)); clear hie; go_wp2; go_ret; exact ⟨by rw [HA.out]; rfl, hb⟩
        · (have hie : i = ks.length := by omega)
          by_cases hll : ks.length < ks'.length
          · (have d3 : decide ((ks.length : Int) < (ks'.length : Int)) = true := by simp; omega); have HA := Lib.hid (show ans = -1 from by rw [HANS.out]; exact ordRs_less hll (by rw [← hie]; exact HTK.out)); clear hie; go_wp2; go_ret; exact ⟨by rw [HA.out]; rfl, hb⟩
          · (have d3 : decide ((ks.length : Int) < (ks'.length : Int)) = false := by simp; omega); have HA := Lib.hid (show ans = 0 from by rw [HANS.out]; exact ordRs_same (by omega) (by rw [← hie]; exact HTK.out)); clear hie; go_wp2; go_ret; exact ⟨by rw [HA.out]; rfl, hb⟩
    · (have d3 : (c != 0) = true := by simp [hc]); have HA := Lib.hid (show ans = c from by rw [hans]; simp [lexI, hc]); clear hans hc; go_enter Tryz.func104, Tryz.ntmps104; go_wp2_with fail; refine (KO.out _).mono ?_; rintro e w1 ⟨rfl, hb1⟩; have hbw : Below w.heap.size w w1 := (((Below.refl _ w).alloc (Nat.le_refl _) _).alloc (by simp) _).trans (hb1.mono (by simp; omega)); clear hb1; go_wp2; go_ret; exact ⟨by rw [HA.out]; rfl, hbw⟩
theorem refTwoX {ok ok' : Nat → Prop} (r t : Rx) (v u : Value) (w : World) (h : ReAt ok w v r) (h' : ReAt ok' w u t) :
    Calls Tryz.prog 104 #[v, u] w fun e w' => e = .returned (.int .i64 (ordR r t)) ∧ Below w.heap.size w w' := refTwo_any r.size r t (Nat.le_refl _) v u w h h'
open Go.RowKit
theorem isNaN8_any (x : Nat) (w : World) :
    Calls Tryz.prog 149 #[.int .u8 x] w fun e w' => e = .returned (.bool false) ∧ w = w' := by
  go_enter Tryz.func149, Tryz.ntmps149; go_wp2; go_ret; exact ⟨rfl, rfl⟩
set_option maxHeartbeats 1000000 in
theorem compare8_any (x y : Nat) (c : Int) (h : cmpN x y = c) (w : World) :
    Calls Tryz.prog 136 #[.int .u8 x, .int .u8 y] w fun e w' => e = .returned (.int .i64 c) ∧ w' = w := by
  subst h; unfold cmpN
  by_cases h1 : x < y
  · rw [if_pos h1]; go_enter Tryz.func136, Tryz.ntmps136; go_wp2_with fail; refine (isNaN8_any x _).mono ?_; rintro e w1 ⟨rfl, rfl⟩; go_wp2_with fail; refine (isNaN8_any y _).mono ?_; rintro e w1 ⟨rfl, rfl⟩; go_wp2; go_ret; exact ⟨rfl, rfl⟩
  · rw [if_neg h1]
    by_cases h2 : y < x
    · rw [if_pos h2]; go_enter Tryz.func136, Tryz.ntmps136; go_wp2_with fail; refine (isNaN8_any x _).mono ?_; rintro e w1 ⟨rfl, rfl⟩; go_wp2_with fail; refine (isNaN8_any y _).mono ?_; rintro e w1 ⟨rfl, rfl⟩; go_wp2; go_ret; exact ⟨rfl, rfl⟩
    · rw [if_neg h2]; go_enter Tryz.func136, Tryz.ntmps136; go_wp2_with fail; refine (isNaN8_any x _).mono ?_; rintro e w1 ⟨rfl, rfl⟩; go_wp2_with fail; refine (isNaN8_any y _).mono ?_; rintro e w1 ⟨rfl, rfl⟩; go_wp2; go_ret; exact ⟨rfl, rfl⟩
def OrdAt (ok ok' : Nat → Prop) (N : Nat) : Prop := ∀ (r t : Rx), r.size ≤ N → ∀ (v u : Value) (w : World), ReAt ok w v r → ReAt ok' w u t →
    Calls Tryz.prog 120 #[v, u] w fun e w' => e = .returned (.int .i64 (ordR r t)) ∧ Below w.heap.size w w'
def compInv (ks ks' : List Rx) (w : World) (y : Value) (wr : World) : Prop := ∃ i : Nat, i ≤ ks.length ∧ i ≤ ks'.length ∧ y = .int .i64 i ∧ ks.take i = ks'.take i ∧ Below w.heap.size w wr
set_option maxHeartbeats 4000000 in
theorem compare_of {ok ok' : Nat → Prop} {N : Nat} (ih : OrdAt ok ok' N) (ks ks' : List Rx) (hN : Rx.sizes ks ≤ N) (al al' : Option Addr) (cap cap' : Nat) (w : World) (_hl : ks.length < 2199023255552) (_hl' : ks'.length < 2199023255552) (hR : RowAt ok w al ks) (hU : RowAt ok' w al' ks') :
    Calls Tryz.prog 138 #[.slice al ks.length cap, .slice al' ks'.length cap', .func (.func 120) #[] #[]] w fun e w' => e = .returned (.int .i64 (ordRs ks ks')) ∧ Below w.heap.size w w' := by
  have IH := Lib.hid ih; have HR := Lib.hid hR; have HU := Lib.hid hU; clear ih hR hU; obtain ⟨ans, hans⟩ : ∃ ans, ans = ordRs ks ks' := ⟨_, rfl⟩; rw [← hans]; have HANS := Lib.hid hans; clear hans; go_enter Tryz.func138, Tryz.ntmps138; go_wp2
  go_loopw [13] (fun y wr => compInv ks ks' w y wr) (fun y _ => ks.length - (intOf y).toNat)
  case atStart => exact ⟨0, Nat.zero_le _, Nat.zero_le _, rfl, by simp, Below.refl _ w⟩
  case round =>
    obtain ⟨i, hi, hi', rfl, htk, hb⟩ := hrel; have HTK := Lib.hid htk; clear htk
    by_cases hlt : i < ks.length
    · obtain ⟨b, off, hab, hblt, hnode⟩ := HR.out.kid hlt; subst hab; have hkid := NodeAt.below hb _ hblt hnode; have hks := size_kid hlt
      by_cases hlt' : i < ks'.length
      · obtain ⟨b', off', hab', hblt', hnode'⟩ := HU.out.kid hlt'; subst hab'; have hkid' := NodeAt.below hb _ hblt' hnode'; have HSA := fun h => ordRs_at hlt hlt' HTK.out h; have HSB := fun h => take_step hlt hlt' HTK.out h; generalize ks[i] = kid at *; generalize ks'[i] = kid' at *; obtain ⟨kk, ⟨ta, tb, tc, td⟩, kks⟩ := kid; obtain ⟨kk', ⟨ta', tb', tc', td'⟩, kks'⟩ := kid'; obtain ⟨bl, bcap, ⟨c0, c1, c2, c3, c4, c5⟩, hre⟩ := hkid.read; obtain ⟨bl', bcap', ⟨e0, e1, e2, e3, e4, e5⟩, hre'⟩ := hkid'.read; simp only at c0 c1 c2 c3 c4 c5 e0 e1 e2 e3 e4 e5; have KK := Lib.hid fun W (h : Below wr.heap.size wr W) => IH.out _ _ (Nat.le_trans hks hN) _ _ W (hre.below h) (hre'.below h); generalize ordR (Rx.node kk ⟨ta, tb, tc, td⟩ kks) (Rx.node kk' ⟨ta', tb', tc', td'⟩ kks') = q at *; have HSA' := Lib.hid HSA; have HSB' := Lib.hid HSB; clear hkid hkid' hnode hnode' HSA HSB hre hre' hks; (have d1 : decide ((i : Int) ≥ (ks'.length : Int)) = false := by simp; omega); (have d2 : ¬ ((ks'.length : Int) ≤ (i : Int)) := by omega); (have q2 : (i : Int) < (ks'.length : Int) := by omega); have q3 : b' < wr.heap.size := Nat.lt_of_lt_of_le hblt' hb.size; go_wp2_with fail; refine (KK.out _ (((Below.refl _ wr).alloc (Nat.le_refl _) _).alloc (by simp) _)).mono ?_; rintro e w1 ⟨rfl, hb1⟩; replace hb : Below w.heap.size w w1 := hb.trans (((((Below.refl _ wr).alloc (Nat.le_refl _) _).alloc (by simp) _).trans (hb1.mono (by simp; omega))).mono hb.size); clear c0 c1 c2 c3 c4 c5 e0 e1 e2 e3 e4 e5 hb1
        by_cases hq : q = 0
        · subst hq; go_wp2; exact ⟨⟨i + 1, by omega, by omega, by go_num, HSB'.out trivial, hb⟩, by simp [intOf]; omega⟩
        · (have d3 : (q != 0) = true := by simp [hq]); have HA := Lib.hid (show ans = q from by rw [HANS.out]; exact HSA'.out hq); clear hq; go_wp2; go_ret; exact ⟨by rw [HA.out]; rfl, hb⟩
      · (have hie : i = ks'.length := by omega); have HA := Lib.hid (show ans = 1 from by rw [HANS.out]; exact ordRs_more (by omega) (by rw [← hie]; exact HTK.out)); (have d1 : decide ((i : Int) ≥ (ks'.length : Int)) = true := by simp; omega); (have d2 : (ks'.length : Int) ≤ (i : Int) := by omega); generalize ks[i] = kid at *; obtain ⟨kk, ⟨ta, tb, tc, td⟩, kks⟩ := kid; obtain ⟨bl, bcap, ⟨c0, c1, c2, c3, c4, c5⟩, hre⟩ := hkid.read; simp only at c0 c1 c2 c3 c4 c5; clear hie hkid hnode hks hre; go_wp2; go_ret; exact ⟨by rw [HA.out]; rfl, hb.alloc hb.size _⟩
    · (have hie : i = ks.length := by omega)
      by_cases hll : ks.length < ks'.length
      · (have d3 : decide ((ks.length : Int) < (ks'.length : Int)) = true := by simp; omega); have HA := Lib.hid (show ans = -1 from by rw [HANS.out]; exact ordRs_less hll (by rw [← hie]; exact HTK.out)); clear hie; go_wp2; go_ret; exact ⟨by rw [HA.out]; rfl, hb⟩
      · (have d3 : decide ((ks.length : Int) < (ks'.length : Int)) = false := by simp; omega); have HA := Lib.hid (show ans = 0 from by rw [HANS.out]; exact ordRs_same (by omega) (by rw [← hie]; exact HTK.out)); clear hie; go_wp2; go_ret; exact ⟨by rw [HA.out]; rfl, hb⟩
set_option maxHeartbeats 4000000 in
theorem ord_all_R (ok ok' : Nat → Prop) (N : Nat) : OrdAt ok ok' N := by
  induction N with
  | zero => intro r _ h; have := r.size_pos; omega
  | succ N ih =>
    rintro ⟨k, s, ks⟩ ⟨k', s', ks'⟩ hN v u w hR hU; obtain ⟨hk, hs, al, cap, rfl, hcap, hmax, hrow⟩ := hR; obtain ⟨hk', hs', al', cap', rfl, hcap', hmax', hrow'⟩ := hU; (have hN' : Rx.sizes ks ≤ N := by simp [Rx.size] at hN; omega); have KE := Lib.hid fun W (h : Below w.heap.size w W) => compare_of ih ks ks' hN' al al' cap cap' W hmax hmax' (hrow.below h) (hrow'.below h); have KO := Lib.hid fun W => order_any s s' W; obtain ⟨c1, hc1⟩ : ∃ c1, cmpN k k' = c1 := ⟨_, rfl⟩; have KC := Lib.hid fun W => compare8_any k k' c1 hc1 W; (have hans : ordR (.node k s ks) (.node k' s' ks') = lexI c1 (lexI (ordW s s') (ordRs ks ks')) := by rw [← hc1]; simp [ordR]); rw [hans]; clear ih hrow hrow' hN hans hc1; generalize ordRs ks ks' = c3 at *; generalize ordW s s' = c2 at *; obtain ⟨sa, sb, sc, sd⟩ := s; obtain ⟨sa', sb', sc', sd'⟩ := s'; unfold Ws.v at KO; simp only at KO; go_enter Tryz.func120, Tryz.ntmps120; go_wp2_with fail; refine (KC.out _).mono ?_; rintro e w0 ⟨rfl, rfl⟩
    by_cases h1 : c1 = 0
    · subst h1; go_wp2_with fail; refine (KO.out _).mono ?_; rintro e w1 ⟨rfl, hb1⟩; have hbw : Below w.heap.size w w1 := (((Below.refl _ w).alloc (Nat.le_refl _) _).alloc (by simp) _).trans (hb1.mono (by simp; omega))
      have x5 : w1.cell? ⟨w.heap.size, 5, none⟩ = some (.slice al ks.length cap) := by
        rw [Lib.cell_of_heap ((hb1.block _ (by simp; omega)).trans ((Below.heap_alloc _ _ _ (by simp)).trans (blk_new w _)))]; rfl
      have y5 : w1.cell? ⟨w.heap.size + 1, 5, none⟩ = some (.slice al' ks'.length cap') := by
        rw [Lib.cell_of_heap ((hb1.block _ (by simp)).trans (blk_at _ _ (by simp)))]; rfl
      clear hb1
      by_cases h2 : c2 = 0
      · subst h2; go_wp2_with fail; refine (KE.out _ hbw).mono ?_; rintro e w2 ⟨rfl, hb2⟩; have hbz : Below w.heap.size w w2 := hbw.trans (hb2.mono hbw.size); clear hb2 x5 y5; go_wp2; go_ret; exact ⟨by simp [lexI], hbz⟩
      · (have d3 : (c2 != 0) = true := by simp [h2]); have HA := Lib.hid (show lexI 0 (lexI c2 c3) = c2 from by simp [lexI, h2]); clear h2 x5 y5; go_wp2; go_ret; exact ⟨by rw [HA.out]; rfl, hbw⟩
    · (have d3 : (c1 != 0) = true := by simp [h1]); have HA := Lib.hid (show lexI c1 (lexI c2 c3) = c1 from by simp [lexI, h1]); clear h1; go_wp2; go_ret; exact ⟨by rw [HA.out]; rfl, ((Below.refl _ w).alloc (Nat.le_refl _) _).alloc (by simp) _⟩
theorem twoX {ok ok' : Nat → Prop} (r t : Rx) (v u : Value) (w : World) (h : ReAt ok w v r) (h' : ReAt ok' w u t) :
    Calls Tryz.prog 120 #[v, u] w fun e w' => e = .returned (.int .i64 (ordR r t)) ∧ Below w.heap.size w w' := ord_all_R ok ok' r.size r t (Nat.le_refl _) v u w h h'
open Go.RowKit
def oinInv (l : List Rx) (r : Rx) (w : World) (o : Obj) (y : Value) (wr : World) : Prop := ∃ i : Nat, i ≤ l.length ∧ y = .int .i64 i ∧ (l.take i).any (fun x => sameR x r) = false ∧ wr.heap[w.heap.size]? = some o ∧ Below w.heap.size w wr
set_option maxRecDepth 100000 in
set_option maxHeartbeats 4000000 in
theorem in_any {ok ok' : Nat → Prop} (l : List Rx) (r : Rx) (al : Option Addr) (cap : Nat) (v : Value) (w : World) (hl : l.length < 2199023255552) (hR : RowAt ok w al l) (h : ReAt ok' w v r) :
    Calls Tryz.prog 103 #[.slice al l.length cap, v] w fun e w' => e = .returned (.bool (l.any fun x => sameR x r)) ∧ Below w.heap.size w w' := by
  have HR := Lib.hid hR; have HV := Lib.hid h; obtain ⟨x0, x1, x2, x3, x4, xl, xn, xc, rfl⟩ := cells_re h; clear hR h; go_enter Tryz.func103, Tryz.ntmps103; go_wp2
  go_loopw [8] (fun y wr => oinInv l r w (.cells #[.int .u8 x0, .int .u64 x1, .int .u64 x2, .int .u64 x3, .int .u64 x4, .slice xl xn xc] 39) y wr) (fun y _ => l.length - (intOf y).toNat)
  case atStart => exact ⟨0, Nat.zero_le _, rfl, by simp, blk_new w _, (Below.refl _ w).alloc (Nat.le_refl _) _⟩
  case round =>
    obtain ⟨i, hi, rfl, hany, hbl, hb⟩ := hrel; have HA := Lib.hid hany; have HB := Lib.hid hbl; clear hany hbl
    by_cases hlt : i < l.length
    · obtain ⟨b, off, hab, hblt, hnode⟩ := HR.out.kid hlt; subst hab; have hkid := NodeAt.below hb _ hblt hnode
      have htk : (l.take (i + 1)).any (fun x => sameR x r) = ((l.take i).any (fun x => sameR x r) || sameR l[i] r) := by
        rw [List.take_succ_eq_append_getElem hlt, List.any_append, List.any_cons, List.any_nil, Bool.or_false]
      have hin : sameR l[i] r = true → l.any (fun x => sameR x r) = true := fun h => List.any_eq_true.2 ⟨l[i], List.getElem_mem hlt, h⟩; generalize l[i] = kid at *; obtain ⟨kk, ⟨ta, tb, tc, td⟩, kks⟩ := kid; obtain ⟨bl, bcap, ⟨c0, c1, c2, c3, c4, c5⟩, hre⟩ := hkid.read; simp only at c0 c1 c2 c3 c4 c5; obtain ⟨d0, d1, d2, d3, d4, d5, -⟩ := cellsR HB.out; have KK := Lib.hid (refSame_any _ _ r (Nat.le_refl _) _ _ wr.drew (hre.below (Below.refl _ _).drew) ((HV.out.below hb).below (Below.refl _ _).drew)); generalize sameR (Rx.node kk ⟨ta, tb, tc, td⟩ kks) r = q at *; have T1 := Lib.hid htk; have T2 := Lib.hid hin; have hlt0 : w.heap.size < wr.heap.size := (Array.getElem?_eq_some_iff.1 HB.out).1; clear hkid hnode hre htk hin; (have q1 : (i : Int) < (l.length : Int) := by omega); go_wp2_with fail
      go_still_tail 5, (by kernel_rfl)
      change wpList _ _ _ _ _ wr.drew
      go_wp2_with fail; refine KK.out.mono ?_; rintro e w1 ⟨rfl, hb1⟩; have hbl1 := Lib.hid ((hb1.block w.heap.size hlt0).trans HB.out); replace hb := hb.drew.trans (hb1.mono hb.drew.size); clear c0 c1 c2 c3 c4 c5 d0 d1 d2 d3 d4 d5 hb1
      cases q with
      | true =>
        go_wp2; go_ret; exact ⟨by rw [T2.out trivial]; rfl, hb⟩
      | false =>
        go_wp2; exact ⟨⟨i + 1, by omega, by go_num, by rw [T1.out, HA.out]; rfl, hbl1.out, hb⟩, by simp [intOf]; omega⟩
    · have he : l.take i = l := List.take_of_length_le (by omega); rw [he] at HA; go_wp2; go_ret; exact ⟨by rw [HA.out]; rfl, hb⟩
open Go.RowKit
def onceTake (l : List Rx) (i : Nat) : List Rx := onceR (l.take i)
theorem onceFrom_append : ∀ (l m out : List Rx), onceFrom out (l ++ m) = onceFrom (onceFrom out l) m
  | [], m, out => by simp [onceFrom]
  | r :: l, m, out => by
    simp only [List.cons_append, onceFrom]
    split
    · exact onceFrom_append l m out
    · exact onceFrom_append l m _
theorem onceTake_step (l : List Rx) (i : Nat) (h : i < l.length) : onceTake l (i + 1) = if (onceTake l i).any (fun o => sameR o l[i]) = true then onceTake l i else onceTake l i ++ [l[i]] := by
  unfold onceTake onceR; rw [List.take_succ_eq_append_getElem h, onceFrom_append]; simp only [onceFrom]
theorem onceFrom_length : ∀ (l out : List Rx), (onceFrom out l).length ≤ out.length + l.length
  | [], out => by simp [onceFrom]
  | r :: l, out => by
    unfold onceFrom
    split
    · have := onceFrom_length l out
      simp; omega
    · have := onceFrom_length l (out ++ [r]); simp at this ⊢; omega
theorem onceTake_length (l : List Rx) (i : Nat) : (onceTake l i).length ≤ i := by
  have := onceFrom_length (l.take i) []; simp at this; unfold onceTake onceR; omega
end Go.Proofs.YthgghaaddankoaaGreatDoor
/- Lemmas of mine. -/
namespace Go.Proofs.YthgghaaddankoaaGreatDoor
def atR (l : List Rx) (i : Nat) : Rx := (l[i]?).getD (.node 0 Ws.nil [])
theorem atR_get {l : List Rx} {i : Nat} (h : i < l.length) : atR l i = l[i] := by simp [atR, h]
def PLt (l : List Rx) (i k : Nat) : Prop := ordR (atR l i) (atR l k) < 0 ∨ (ordR (atR l i) (atR l k) = 0 ∧ i < k)
theorem PLt.le {l : List Rx} {i k : Nat} (h : PLt l i k) : ordR (atR l i) (atR l k) ≤ 0 := by rcases h with h | h <;> omega
def Placed (l : List Rx) (n : Nat) (ds : List Nat) : Prop := ds.Perm (List.range n) ∧ ds.Pairwise (PLt l)
theorem Placed.length {l : List Rx} {n : Nat} {ds : List Nat} (h : Placed l n ds) : ds.length = n := by simpa using h.1.length_eq
theorem Placed.lt {l : List Rx} {n : Nat} {ds : List Nat} (h : Placed l n ds) {x : Nat} (hx : x ∈ ds) : x < n := by simpa using (h.1.mem_iff.1 hx)
theorem range_at (l : List Rx) : (List.range l.length).map (atR l) = l := by
  refine List.ext_getElem (by simp) fun i h1 h2 => ?_; simp [atR, h2]
theorem placed_sort {l : List Rx} {ds : List Nat} (h : Placed l l.length ds) : ds.map (atR l) = sortR l := by
  refine sortR_unique ?_ ?_
  · have := h.1.map (atR l)
    rwa [range_at] at this
  · exact List.pairwise_map.2 (h.2.imp fun h => h.le)
def isFirst (l : List Rx) (i : Nat) : Bool := (List.range i).all fun k => decide (ordR (atR l k) (atR l i) ≠ 0)
theorem isFirst_iff {l : List Rx} {i : Nat} : isFirst l i = true ↔ ∀ k, k < i → ordR (atR l k) (atR l i) ≠ 0 := by simp [isFirst]
def cpt (l : List Rx) (ds : List Nat) : Nat → List Nat
  | 0 => []
  | m + 1 => if m = 0 ∨ ordR (atR l (ds.getD m 0)) (atR l (ds.getD (m - 1) 0)) ≠ 0 then cpt l ds m ++ [ds.getD m 0] else cpt l ds m
theorem cpt_length (l : List Rx) (ds : List Nat) : ∀ m, (cpt l ds m).length ≤ m
  | 0 => by simp [cpt]
  | m + 1 => by
    have := cpt_length l ds m; unfold cpt
    split
    · simp; omega
    · omega
theorem first_at {l : List Rx} {n : Nat} {ds : List Nat} (h : Placed l n ds) {m : Nat} (hm : m < ds.length) : isFirst l ds[m] = true ↔ m = 0 ∨ ordR (atR l ds[m]) (atR l (ds.getD (m - 1) 0)) ≠ 0 := by
  have hn := h.length; have pw := List.pairwise_iff_getElem.1 h.2; (have eg : ds.getD (m - 1) 0 = ds[m - 1]'(by omega) := by simp [List.getD, show m - 1 < ds.length from by omega]); rw [eg, isFirst_iff]
  constructor
  · intro hf
    by_cases h0 : m = 0
    · exact .inl h0
    · refine .inr fun he => ?_; have hp := pw (m - 1) m (by omega) hm (by omega); (have he' : ordR (atR l (ds[m - 1]'(by omega))) (atR l ds[m]) = 0 := by rw [ordR_neg, he]; rfl)
      rcases hp with hp | ⟨_, hp⟩
      · omega
      · exact hf _ hp he'
  · intro ho k hk he; have hkn : k < n := Nat.lt_trans hk (h.lt (List.getElem_mem hm)); have hkm : k ∈ ds := h.1.mem_iff.2 (by simpa using hkn); obtain ⟨j, hj, rfl⟩ := List.getElem_of_mem hkm
    rcases Nat.lt_trichotomy j m with hjm | hjm | hjm
    · (have h0 : m ≠ 0 := by omega)
      rcases ho with ho | ho
      · exact h0 ho
      · have hsame := (ordR_zero _ _).1 he; have h1 := (pw (m - 1) m (by omega) hm (by omega)).le
        have h2 : ordR (atR l ds[j]) (atR l (ds[m - 1]'(by omega))) ≤ 0 := by
          by_cases e : j = m - 1
          · subst e; rw [ordR_self]; exact Int.le_refl _
          · exact (pw j (m - 1) hj (by omega) (by omega)).le
        rw [hsame] at h2; refine ho ?_; rw [ordR_antisymm h1 h2, ordR_self]
    · subst hjm; exact Nat.lt_irrefl _ hk
    · have h1 := pw m j hm hj hjm; (have he' : ordR (atR l ds[m]) (atR l ds[j]) = 0 := by rw [ordR_neg, he]; rfl)
      rcases h1 with h1 | ⟨_, h1⟩ <;> omega
theorem cpt_filter {l : List Rx} {n : Nat} {ds : List Nat} (h : Placed l n ds) : ∀ m, m ≤ ds.length → cpt l ds m = (ds.take m).filter (isFirst l)
  | 0, _ => by simp [cpt]
  | m + 1, hm => by
    have ih := cpt_filter h m (by omega); have hf := first_at h (m := m) (by omega); (have eg : ds.getD m 0 = ds[m]'(by omega) := by simp [List.getD, show m < ds.length from by omega]); have step : cpt l ds (m + 1) = if m = 0 ∨ ordR (atR l (ds.getD m 0)) (atR l (ds.getD (m - 1) 0)) ≠ 0 then cpt l ds m ++ [ds.getD m 0] else cpt l ds m := rfl; rw [List.take_succ_eq_append_getElem (by omega), List.filter_append, ← ih, step, eg]
    by_cases e : isFirst l (ds[m]'(by omega)) = true
    · rw [if_pos (hf.1 e)]; simp [e]
    · rw [if_neg fun h => e (hf.2 h)]; simp [e]
def firsts (l : List Rx) (n : Nat) : List Nat := (List.range n).filter (isFirst l)
theorem cpt_perm {l : List Rx} {n : Nat} {ds : List Nat} (h : Placed l n ds) : (cpt l ds n).Perm (firsts l n) := by
  have := cpt_filter h ds.length (Nat.le_refl _); rw [List.take_length, h.length] at this; rw [this]; exact h.1.filter _
theorem firsts_sorted (l : List Rx) (n : Nat) : ((firsts l n).map fun i : Nat => (i : Int)).Pairwise fun x y => x ≤ y := by
  refine List.pairwise_map.2 ((List.pairwise_lt_range (n := n)).filter _ |>.imp fun h => ?_); omega
theorem sort_firsts {l : List Rx} {n : Nat} {es : List Nat} (h : es.Perm (firsts l n)) : (es.map fun i : Nat => (i : Int)).mergeSort (fun x y => decide (x ≤ y)) = (firsts l n).map fun i : Nat => (i : Int) := by
  refine List.Perm.eq_of_pairwise (le := fun x y : Int => x ≤ y) (fun a b _ _ h1 h2 => Int.le_antisymm h1 h2) ?_ (firsts_sorted l n) ((List.mergeSort_perm _ _).trans (h.map _)); have := List.pairwise_mergeSort (le := fun x y : Int => decide (x ≤ y)) (fun a b c h1 h2 => by simp at *; omega) (fun a b => by simp; omega) (es.map fun i : Nat => (i : Int)); (exact this.imp fun h => by simpa using h)
theorem firsts_once (l : List Rx) : ∀ i, i ≤ l.length → (firsts l i).map (atR l) = onceTake l i
  | 0, _ => by simp [firsts, onceTake, onceR, onceFrom]
  | i + 1, h => by
    have ih := firsts_once l i (by omega); have hs := onceTake_step l i (by omega); rw [hs, ← ih]
    have hm : ((firsts l i).map (atR l)).any (fun o => sameR o (l[i]'(by omega))) = true ↔ ¬ isFirst l i = true := by
      rw [ih, any_same]; unfold onceTake; rw [onceR_mem, isFirst_iff]
      constructor
      · intro hin hall; obtain ⟨k, hk, e⟩ := List.getElem_of_mem hin; rw [List.length_take] at hk; refine hall k (by omega) ((ordR_zero _ _).2 ?_); rw [atR_get (by omega), atR_get (by omega), ← e]; simp
      · intro hno
        apply Classical.byContradiction
        intro hin
        apply hno
        intro k hk he
        apply hin
        have := (ordR_zero _ _).1 he; rw [atR_get (by omega), atR_get (by omega)] at this; rw [← this, List.mem_take_iff_getElem]; exact ⟨k, by omega, rfl⟩
    unfold firsts at *; rw [List.range_succ, List.filter_append, List.map_append]
    by_cases e : isFirst l i = true
    · rw [if_neg fun h => hm.1 h e]; simp [e, atR_get (show i < l.length from by omega)]
    · rw [if_pos (hm.2 e)]; simp [e]
theorem firsts_onceR (l : List Rx) : (firsts l l.length).map (atR l) = onceR l := by
  rw [firsts_once l l.length (Nat.le_refl _)]; simp [onceTake]
theorem firsts_lt {l : List Rx} {n x : Nat} (h : x ∈ firsts l n) : x < n := by
  have := (List.mem_filter.1 h).1
  simpa using this
open Go.RowKit
def BoxL (w : World) (c : Nat) (al : Option Addr) (n cap : Nat) : Prop := w.heap[c]? = some (.cells #[.slice al n cap] 27)
theorem BoxL.cell {w : World} {c : Nat} {al : Option Addr} {n cap : Nat} (h : BoxL w c al n cap) : w.cell? ⟨c, 0, none⟩ = some (.slice al n cap) := by rw [Lib.cell_of_heap h]; rfl
theorem BoxL.lt {w : World} {c : Nat} {al : Option Addr} {n cap : Nat} (h : BoxL w c al n cap) : c < w.heap.size := (Array.getElem?_eq_some_iff.1 h).1
theorem BoxL.of {w w' : World} {c : Nat} {al : Option Addr} {n cap : Nat} (h : BoxL w c al n cap) (e : w'.heap[c]? = w.heap[c]?) : BoxL w' c al n cap := e.trans h
set_option maxRecDepth 100000 in
set_option maxHeartbeats 2000000 in
theorem cmpAt {ok : Nat → Prop} (l : List Rx) (al : Option Addr) (cap c i k : Nat) (w : World) (hR : RowAt ok w al l) (hc : BoxL w c al l.length cap) (hi : i < l.length) (hk : k < l.length) :
    Calls Tryz.prog 135 #[.int .i64 i, .int .i64 k, .pointer (some ⟨c, 0, none⟩)] w fun e w' => e = .returned (.int .i64 (ordR (atR l i) (atR l k))) ∧ Below w.heap.size w w' := by
  obtain ⟨b, off, hab, hblt, hnode⟩ := hR.kid hi; obtain ⟨b', off', hab', hblt', hnode'⟩ := hR.kid hk; rw [atR_get hi, atR_get hk]; have x0 := hc.cell; have hcl := hc.lt; subst hab; simp at hab'; obtain ⟨rfl, rfl⟩ := hab'; clear hR hc; generalize l[i] = kid at *; generalize l[k] = kid' at *; obtain ⟨kk, ⟨ta, tb, tc, td⟩, kks⟩ := kid; obtain ⟨kk', ⟨ta', tb', tc', td'⟩, kks'⟩ := kid'; obtain ⟨bl, bcap, ⟨c0, c1, c2, c3, c4, c5⟩, hre⟩ := hnode.read; obtain ⟨bl', bcap', ⟨e0, e1, e2, e3, e4, e5⟩, hre'⟩ := hnode'.read; simp only at c0 c1 c2 c3 c4 c5 e0 e1 e2 e3 e4 e5; have KK := Lib.hid (twoX _ _ _ _ w.drew (hre.below (Below.refl _ _).drew) (hre'.below (Below.refl _ _).drew)); generalize ordR (Rx.node kk ⟨ta, tb, tc, td⟩ kks) (Rx.node kk' ⟨ta', tb', tc', td'⟩ kks') = q at *; clear hnode hnode' hre hre'; (have q1 : (i : Int) < (l.length : Int) := by omega); (have q2 : (k : Int) < (l.length : Int) := by omega); go_enter Tryz.func135, Tryz.ntmps135; go_wp2_with fail
  go_still_tail 8, (by kernel_rfl)
  change wpList _ _ _ _ _ w.drew
  go_wp2_with fail; refine KK.out.mono ?_; rintro e w1 ⟨rfl, hb1⟩; have hb : Below w.heap.size w w1 := (Below.refl _ w).drew.trans hb1; clear c0 c1 c2 c3 c4 c5 e0 e1 e2 e3 e4 e5 hb1 x0; go_wp2; go_ret; exact ⟨rfl, hb⟩
set_option maxRecDepth 100000 in
set_option maxHeartbeats 2000000 in
theorem eqAt {ok : Nat → Prop} (l : List Rx) (al : Option Addr) (cap c i k : Nat) (w : World) (hR : RowAt ok w al l) (hc : BoxL w c al l.length cap) (hi : i < l.length) (hk : k < l.length) :
    Calls Tryz.prog 119 #[.int .i64 i, .int .i64 k, .pointer (some ⟨c, 0, none⟩)] w fun e w' => e = .returned (.bool (ordR (atR l i) (atR l k) == 0)) ∧ Below w.heap.size w w' := by
  obtain ⟨b, off, hab, hblt, hnode⟩ := hR.kid hi; obtain ⟨b', off', hab', hblt', hnode'⟩ := hR.kid hk; rw [atR_get hi, atR_get hk]; have x0 := hc.cell; have hcl := hc.lt; subst hab; simp at hab'; obtain ⟨rfl, rfl⟩ := hab'; clear hR hc; generalize l[i] = kid at *; generalize l[k] = kid' at *; obtain ⟨kk, ⟨ta, tb, tc, td⟩, kks⟩ := kid; obtain ⟨kk', ⟨ta', tb', tc', td'⟩, kks'⟩ := kid'; obtain ⟨bl, bcap, ⟨c0, c1, c2, c3, c4, c5⟩, hre⟩ := hnode.read; obtain ⟨bl', bcap', ⟨e0, e1, e2, e3, e4, e5⟩, hre'⟩ := hnode'.read; simp only at c0 c1 c2 c3 c4 c5 e0 e1 e2 e3 e4 e5; have KK := Lib.hid (twoX _ _ _ _ w.drew (hre.below (Below.refl _ _).drew) (hre'.below (Below.refl _ _).drew)); generalize ordR (Rx.node kk ⟨ta, tb, tc, td⟩ kks) (Rx.node kk' ⟨ta', tb', tc', td'⟩ kks') = q at *; clear hnode hnode' hre hre'; (have q1 : (i : Int) < (l.length : Int) := by omega); (have q2 : (k : Int) < (l.length : Int) := by omega); go_enter Tryz.func119, Tryz.ntmps119; go_wp2_with fail
  go_still_tail 8, (by kernel_rfl)
  change wpList _ _ _ _ _ w.drew
  go_wp2_with fail; refine KK.out.mono ?_; rintro e w1 ⟨rfl, hb1⟩; have hb : Below w.heap.size w w1 := (Below.refl _ w).drew.trans hb1; clear c0 c1 c2 c3 c4 c5 e0 e1 e2 e3 e4 e5 hb1 x0; go_wp2; go_ret; exact ⟨rfl, hb⟩
def ints (ds : List Nat) : Array Value := (ds.map fun i : Nat => Value.int .i64 (i : Int)).toArray
def IntsAt (w : World) (g : Nat) (ds : List Nat) : Prop := w.heap[g]? = some (.cells (ints ds) 3)
theorem IntsAt.lt {w : World} {g : Nat} {ds : List Nat} (h : IntsAt w g ds) : g < w.heap.size := (Array.getElem?_eq_some_iff.1 h).1
theorem IntsAt.of {w w' : World} {g : Nat} {ds : List Nat} (h : IntsAt w g ds) (e : w'.heap[g]? = w.heap[g]?) : IntsAt w' g ds := e.trans h
theorem IntsAt.cell {w : World} {g : Nat} {ds : List Nat} (h : IntsAt w g ds) (j : Nat) (hj : j < ds.length) : w.cell? ⟨g, j, none⟩ = some (.int .i64 (ds[j] : Int)) := by
  rw [Lib.cell_of_heap h]; simp [ints, hj]
theorem IntsAt.free {w : World} {g : Nat} {ds : List Nat} (h : IntsAt w g ds) (j : Nat) : w.frozen? ⟨g, j, none⟩ = false := Lib.frozen_of_heap h j
theorem IntsAt.set {w : World} {g : Nat} {ds : List Nat} (h : IntsAt w g ds) (j x : Nat) : IntsAt (w.setCell ⟨g, j, none⟩ (.int .i64 (x : Int))) g (ds.set j x) := by
  unfold IntsAt at h ⊢; simp [World.setCell, Array.getElem?_modify, h, ints, List.map_set]
end Go.Proofs.YthgghaaddankoaaGreatDoor
/- Lemmas of mine. -/
namespace Go.Proofs.YthgghaaddankoaaGreatDoor
theorem PLt.trans {l : List Rx} {i j k : Nat} (h : PLt l i j) (h' : PLt l j k) : PLt l i k := by
  have h1 := ordR_trans _ _ _ h.le h'.le
  by_cases e : ordR (atR l i) (atR l k) = 0
  · refine .inr ⟨e, ?_⟩; have es := (ordR_zero _ _).1 e; have h2 := h'.le; rw [← es] at h2; have h3 := ordR_antisymm h.le h2
    rcases h with h | ⟨_, h⟩
    · rw [h3, ordR_self] at h; omega
    · rcases h' with h' | ⟨_, h'⟩
      · rw [← es, h3, ordR_self] at h'; omega
      · omega
  · exact .inl (by omega)
def SortedOn (l : List Rx) (D : Nat → Nat) (a b : Nat) : Prop := ∀ i j, a ≤ i → i < j → j < b → PLt l (D i) (D j)
def CrossOn (l : List Rx) (D : Nat → Nat) (a m b : Nat) : Prop := ∀ i j, a ≤ i → i < m → m ≤ j → j < b → ordR (atR l (D i)) (atR l (D j)) = 0 → D i < D j
def SegOn (D E : Nat → Nat) (a b : Nat) : Prop := (∀ i, ¬ (a ≤ i ∧ i < b) → E i = D i) ∧ (∀ i, a ≤ i → i < b → ∃ j, a ≤ j ∧ j < b ∧ E i = D j) ∧ (∀ j, a ≤ j → j < b → ∃ i, a ≤ i ∧ i < b ∧ E i = D j)
theorem SegOn.refl (D : Nat → Nat) (a b : Nat) : SegOn D D a b := ⟨fun _ _ => rfl, fun i h1 h2 => ⟨i, h1, h2, rfl⟩, fun i h1 h2 => ⟨i, h1, h2, rfl⟩⟩
theorem SegOn.trans {D E F : Nat → Nat} {a b : Nat} (h : SegOn D E a b) (k : SegOn E F a b) : SegOn D F a b := by
  refine ⟨fun i hi => (k.1 i hi).trans (h.1 i hi), fun i h1 h2 => ?_, fun j h1 h2 => ?_⟩
  · obtain ⟨j, j1, j2, e⟩ := k.2.1 i h1 h2; obtain ⟨q, q1, q2, e'⟩ := h.2.1 j j1 j2; exact ⟨q, q1, q2, e.trans e'⟩
  · obtain ⟨i, i1, i2, e⟩ := h.2.2 j h1 h2; obtain ⟨q, q1, q2, e'⟩ := k.2.2 i i1 i2; exact ⟨q, q1, q2, e'.trans e⟩
theorem SegOn.mono {D E : Nat → Nat} {a b a' b' : Nat} (h : SegOn D E a b) (ha : a' ≤ a) (hb : b ≤ b') : SegOn D E a' b' := by
  refine ⟨fun i hi => h.1 i (by omega), fun i h1 h2 => ?_, fun j h1 h2 => ?_⟩
  · by_cases hin : a ≤ i ∧ i < b
    · obtain ⟨j, j1, j2, e⟩ := h.2.1 i hin.1 hin.2; exact ⟨j, by omega, by omega, e⟩
    · exact ⟨i, h1, h2, h.1 i hin⟩
  · by_cases hin : a ≤ j ∧ j < b
    · obtain ⟨i, j1, j2, e⟩ := h.2.2 j hin.1 hin.2; exact ⟨i, by omega, by omega, e⟩
    · exact ⟨j, h1, h2, h.1 j hin⟩
theorem SortedOn.out {l : List Rx} {D E : Nat → Nat} {a b a' b' : Nat} (h : SortedOn l D a b) (k : SegOn D E a' b') (ho : b ≤ a' ∨ b' ≤ a) : SortedOn l E a b := fun i j h1 h2 h3 => by
  rw [k.1 i (by omega), k.1 j (by omega)]; exact h i j h1 h2 h3
theorem SortedOn.part {l : List Rx} {D : Nat → Nat} {a b a' b' : Nat} (h : SortedOn l D a b) (h1 : a ≤ a') (h2 : b' ≤ b) : SortedOn l D a' b' := fun i j q1 q2 q3 => h i j (by omega) q2 (by omega)
def rotD (D : Nat → Nat) (s m e : Nat) (x : Nat) : Nat := if s ≤ x ∧ x < s + (e - m) then D (x + (m - s)) else if s + (e - m) ≤ x ∧ x < e then D (x - (e - m)) else D x
def swpD (D : Nat → Nat) (a b k : Nat) (x : Nat) : Nat := if a ≤ x ∧ x < a + k then D (x - a + b) else if b ≤ x ∧ x < b + k then D (x - b + a) else D x
def swp (D : Nat → Nat) (i j : Nat) (x : Nat) : Nat := if x = i then D j else if x = j then D i else D x
theorem rot_right (D : Nat → Nat) (s m : Nat) (_ : s ≤ m) : rotD D s m m = D := by
  funext x
  simp only [rotD, Nat.sub_self, Nat.add_zero, Nat.sub_zero]
  repeat' split
  all_goals first | rfl | (exfalso; omega)
theorem rot_left (D : Nat → Nat) (m e : Nat) (_ : m ≤ e) : rotD D m m e = D := by
  funext x
  simp only [rotD, Nat.sub_self, Nat.add_zero]
  repeat' split
  all_goals first | rfl | (exfalso; omega)
theorem rot_down (D : Nat → Nat) (k m : Nat) (h : k + 1 ≤ m) : swp (rotD D (k + 1) m (m + 1)) (k + 1) k = rotD D k m (m + 1) := by
  funext x
  simp only [rotD, swp]
  repeat' split
  all_goals first | rfl | (exfalso; omega) | (congr 1; omega)
theorem rot_up (D : Nat → Nat) (a k : Nat) (h : a ≤ k) : swp (rotD D a (a + 1) (k + 1)) k (k + 1) = rotD D a (a + 1) (k + 2) := by
  funext x
  simp only [rotD, swp]
  repeat' split
  all_goals first | rfl | (exfalso; omega) | (congr 1; omega)
theorem swp_step (D : Nat → Nat) (a b k : Nat) (h : a + (k + 1) ≤ b) : swp (swpD D a b k) (a + k) (b + k) = swpD D a b (k + 1) := by
  funext x
  simp only [swpD, swp]
  repeat' split
  all_goals first | rfl | (exfalso; omega) | (congr 1; omega)
theorem swpD_zero (D : Nat → Nat) (a b : Nat) : swpD D a b 0 = D := by
  funext x
  simp only [swpD, Nat.add_zero]
  repeat' split
  all_goals first | rfl | (exfalso; omega)
theorem rot_great (D : Nat → Nat) (m i j : Nat) (h : j < i) (hm : i ≤ m) : rotD (swpD D (m - i) m j) (m - (i - j)) m (m + j) = rotD D (m - i) m (m + j) := by
  funext x
  simp only [rotD, swpD]
  repeat' split
  all_goals first | rfl | (exfalso; omega) | (congr 1; omega)
theorem rot_less (D : Nat → Nat) (m i j : Nat) (h : i < j) (hm : i ≤ m) : rotD (swpD D (m - i) (m + j - i) i) (m - i) m (m + (j - i)) = rotD D (m - i) m (m + j) := by
  funext x
  simp only [rotD, swpD]
  repeat' split
  all_goals first | rfl | (exfalso; omega) | (congr 1; omega)
theorem rot_even (D : Nat → Nat) (m i : Nat) (hm : i ≤ m) : swpD D (m - i) m i = rotD D (m - i) m (m + i) := by
  funext x
  simp only [rotD, swpD]
  repeat' split
  all_goals first | rfl | (exfalso; omega) | (congr 1; omega)
theorem rot_a {D : Nat → Nat} {s m e x : Nat} (_ : s ≤ m) (_ : m ≤ e) (h1 : s ≤ x) (h2 : x < s + (e - m)) : rotD D s m e x = D (x + (m - s)) := by unfold rotD; rw [if_pos ⟨h1, h2⟩]
theorem rot_b {D : Nat → Nat} {s m e x : Nat} (_ : s ≤ m) (_ : m ≤ e) (h1 : s + (e - m) ≤ x) (h2 : x < e) : rotD D s m e x = D (x - (e - m)) := by unfold rotD; rw [if_neg (by omega), if_pos ⟨h1, h2⟩]
theorem rot_c {D : Nat → Nat} {s m e x : Nat} (_ : s ≤ m) (_ : m ≤ e) (h : x < s ∨ e ≤ x) : rotD D s m e x = D x := by unfold rotD; rw [if_neg (by omega), if_neg (by omega)]
theorem rot_seg (D : Nat → Nat) {s m e : Nat} (h1 : s ≤ m) (h2 : m ≤ e) : SegOn D (rotD D s m e) s e := by
  refine ⟨fun i hi => rot_c h1 h2 (by omega), fun i i1 i2 => ?_, fun j j1 j2 => ?_⟩
  · by_cases h : i < s + (e - m)
    · exact ⟨_, by omega, by omega, rot_a h1 h2 i1 h⟩
    · exact ⟨_, by omega, by omega, rot_b h1 h2 (by omega) i2⟩
  · by_cases h : j < m
    · exact ⟨j + (e - m), by omega, by omega, by rw [rot_b h1 h2 (by omega) (by omega), Nat.add_sub_cancel]⟩
    · exact ⟨j - (m - s), by omega, by omega, by rw [rot_a h1 h2 (by omega) (by omega)]; congr 1; omega⟩
theorem rot_parts {l : List Rx} {D : Nat → Nat} {a s m e b : Nat} (h1 : a ≤ s) (h2 : s ≤ m) (h3 : m ≤ e) (h4 : e ≤ b) (hL : SortedOn l D a m) (hR : SortedOn l D m b) (hX : CrossOn l D a m b)
    (P1 : ∀ i j, a ≤ i → i < s → e ≤ j → j < b → PLt l (D i) (D j)) (P2 : ∀ j i, m ≤ j → j < e → s ≤ i → i < m → PLt l (D j) (D i)) :
    SortedOn l (rotD D s m e) a s ∧ SortedOn l (rotD D s m e) s (s + (e - m)) ∧ SortedOn l (rotD D s m e) (s + (e - m)) e ∧ SortedOn l (rotD D s m e) e b ∧
    CrossOn l (rotD D s m e) a s (s + (e - m)) ∧ CrossOn l (rotD D s m e) (s + (e - m)) e b ∧
    (∀ i j, a ≤ i → i < s + (e - m) → s + (e - m) ≤ j → j < b → PLt l (rotD D s m e i) (rotD D s m e j)) := by
  refine ⟨?_, ?_, ?_, ?_, ?_, ?_, ?_⟩
  · intro i j q1 q2 q3; rw [rot_c h2 h3 (by omega), rot_c h2 h3 (by omega)]; exact hL _ _ q1 q2 (by omega)
  · intro i j q1 q2 q3; rw [rot_a h2 h3 (by omega) (by omega), rot_a h2 h3 (by omega) (by omega)]; exact hR _ _ (by omega) (by omega) (by omega)
  · intro i j q1 q2 q3; rw [rot_b h2 h3 (by omega) (by omega), rot_b h2 h3 (by omega) (by omega)]; exact hL _ _ (by omega) (by omega) (by omega)
  · intro i j q1 q2 q3; rw [rot_c h2 h3 (by omega), rot_c h2 h3 (by omega)]; exact hR _ _ (by omega) q2 q3
  · intro i j q1 q2 q3 q4; rw [rot_c h2 h3 (by omega), rot_a h2 h3 (by omega) (by omega)]; exact hX _ _ q1 (by omega) (by omega) (by omega)
  · intro i j q1 q2 q3 q4; rw [rot_b h2 h3 (by omega) (by omega), rot_c h2 h3 (by omega)]; exact hX _ _ (by omega) (by omega) (by omega) q4
  · intro i j q1 q2 q3 q4
    by_cases c1 : i < s
    · rw [rot_c h2 h3 (by omega)]
      by_cases c2 : j < e
      · rw [rot_b h2 h3 q3 c2]; exact hL _ _ q1 (by omega) (by omega)
      · rw [rot_c h2 h3 (by omega)]; exact P1 _ _ q1 c1 (by omega) q4
    · rw [rot_a h2 h3 (by omega) (by omega)]
      by_cases c2 : j < e
      · rw [rot_b h2 h3 q3 c2]; exact P2 _ _ (by omega) (by omega) (by omega) (by omega)
      · rw [rot_c h2 h3 (by omega)]; exact hR _ _ (by omega) (by omega) q4
theorem sorted_join {l : List Rx} {D : Nat → Nat} {a m b : Nat} (h1 : SortedOn l D a m) (h2 : SortedOn l D m b) (h3 : ∀ i j, a ≤ i → i < m → m ≤ j → j < b → PLt l (D i) (D j)) : SortedOn l D a b := fun i j q1 q2 q3 => by
  by_cases c1 : j < m
  · exact h1 i j q1 q2 c1
  · by_cases c2 : i < m
    · exact h3 i j q1 c2 (by omega) q3
    · exact h2 i j (by omega) q2 q3
theorem seg_ahead {l : List Rx} {D E F : Nat → Nat} {a m b : Nat} (hE : SegOn D E a m) (hF : SegOn E F m b) (h : ∀ i j, a ≤ i → i < m → m ≤ j → j < b → PLt l (D i) (D j)) : ∀ i j, a ≤ i → i < m → m ≤ j → j < b → PLt l (F i) (F j) := fun i j q1 q2 q3 q4 => by
  rw [hF.1 i (by omega)]; obtain ⟨j', r1, r2, e⟩ := hF.2.1 j q3 q4; obtain ⟨i', s1, s2, e'⟩ := hE.2.1 i q1 q2; rw [e, e', hE.1 j' (by omega)]; exact h _ _ s1 s2 r1 r2
theorem put_down {l : List Rx} {D : Nat → Nat} {a s m : Nat} (h1 : a ≤ s) (h2 : s ≤ m) (hL : SortedOn l D a m) (hX : CrossOn l D a m (m + 1))
    (ha : s = a ∨ ¬ ordR (atR l (D m)) (atR l (D (s - 1))) < 0) (hb : s = m ∨ ordR (atR l (D m)) (atR l (D s)) < 0) : SortedOn l (rotD D s m (m + 1)) a (m + 1) := by
  have P2 : ∀ j i, m ≤ j → j < m + 1 → s ≤ i → i < m → PLt l (D j) (D i) := fun j i q1 q2 q3 q4 => by
    (obtain rfl : j = m := by omega)
    rcases hb with rfl | hb
    · omega
    · by_cases e : i = s
      · subst e; exact .inl hb
      · exact PLt.trans (.inl hb) (hL s i h1 (by omega) q4)
  obtain ⟨r1, r2, r3, r4, r5, r6, r7⟩ := rot_parts (b := m + 1) h1 h2 (Nat.le_succ m) (Nat.le_refl _) hL (fun i j q1 q2 q3 => by omega) hX (fun i j q1 q2 q3 q4 => by omega) P2; rw [show s + (m + 1 - m) = s + 1 from by omega] at r2 r3 r5 r6 r7; refine sorted_join (sorted_join r1 r2 fun i j q1 q2 q3 q4 => ?_) r3 fun i j q1 q2 q3 q4 => r7 i j q1 q2 q3 q4; (obtain rfl : j = s := by omega); rw [rot_c h2 (Nat.le_succ m) (by omega), rot_a h2 (Nat.le_succ m) (Nat.le_refl _) (by omega), show j + (m - j) = m from by omega]
  rcases ha with rfl | ha
  · omega
  · (have hle : ordR (atR l (D (j - 1))) (atR l (D m)) ≤ 0 := by rw [ordR_neg]; omega)
    have key : ordR (atR l (D i)) (atR l (D m)) ≤ 0 := by
      by_cases e : i = j - 1
      · rw [e]; exact hle
      · exact ordR_trans _ _ _ (hL i (j - 1) q1 (by omega) (by omega)).le hle
    by_cases e : ordR (atR l (D i)) (atR l (D m)) = 0
    · exact .inr ⟨e, hX i m q1 (by omega) (Nat.le_refl _) (by omega) e⟩
    · exact .inl (by omega)
theorem put_up {l : List Rx} {D : Nat → Nat} {a e b : Nat} (h3 : a + 1 ≤ e) (h4 : e ≤ b) (hR : SortedOn l D (a + 1) b) (hX : CrossOn l D a (a + 1) b)
    (ha : e = a + 1 ∨ ordR (atR l (D (e - 1))) (atR l (D a)) < 0) (hb : e = b ∨ ¬ ordR (atR l (D e)) (atR l (D a)) < 0) : SortedOn l (rotD D a (a + 1) e) a b := by
  have P2 : ∀ j i, a + 1 ≤ j → j < e → a ≤ i → i < a + 1 → PLt l (D j) (D i) := fun j i q1 q2 q3 q4 => by
    (obtain rfl : i = a := by omega)
    rcases ha with rfl | ha
    · omega
    · by_cases e' : j = e - 1
      · subst e'; exact .inl ha
      · exact PLt.trans (hR j (e - 1) q1 (by omega) (by omega)) (.inl ha)
  obtain ⟨r1, r2, r3, r4, r5, r6, r7⟩ := rot_parts (Nat.le_refl a) (Nat.le_succ a) h3 h4 (fun i j q1 q2 q3 => by omega) hR hX (fun i j q1 q2 q3 q4 => by omega) P2; refine sorted_join r2 (sorted_join r3 r4 fun i j q1 q2 q3 q4 => ?_) fun i j q1 q2 q3 q4 => r7 i j q1 q2 q3 q4; (obtain rfl : i = a + (e - (a + 1)) := by omega); rw [rot_b (Nat.le_succ a) h3 (Nat.le_refl _) (by omega), rot_c (x := j) (Nat.le_succ a) h3 (.inr q3), Nat.add_sub_cancel]
  rcases hb with rfl | hb
  · omega
  · (have hle : ordR (atR l (D a)) (atR l (D e)) ≤ 0 := by rw [ordR_neg]; omega)
    have key : ordR (atR l (D a)) (atR l (D j)) ≤ 0 := by
      by_cases e' : j = e
      · rw [e']; exact hle
      · exact ordR_trans _ _ _ hle (hR e j h3 (by omega) q4).le
    by_cases e' : ordR (atR l (D a)) (atR l (D j)) = 0
    · exact .inr ⟨e', hX a j (Nat.le_refl _) (by omega) (by omega) q4 e'⟩
    · exact .inl (by omega)
theorem part_at {l : List Rx} {D : Nat → Nat} {a s m e b : Nat} (h1 : a ≤ s) (h2 : s ≤ m) (h3 : m ≤ e) (h4 : e ≤ b) (hL : SortedOn l D a m) (hR : SortedOn l D m b) (hX : CrossOn l D a m b)
    (ha : s = a ∨ e = b ∨ ¬ ordR (atR l (D e)) (atR l (D (s - 1))) < 0) (hb : s = m ∨ e = m ∨ ordR (atR l (D (e - 1))) (atR l (D s)) < 0) :
    (∀ i j, a ≤ i → i < s → e ≤ j → j < b → PLt l (D i) (D j)) ∧ (∀ j i, m ≤ j → j < e → s ≤ i → i < m → PLt l (D j) (D i)) := by
  refine ⟨fun i j q1 q2 q3 q4 => ?_, fun j i q1 q2 q3 q4 => ?_⟩
  · rcases ha with rfl | rfl | ha
    · omega
    · omega
    · (have hle : ordR (atR l (D (s - 1))) (atR l (D e)) ≤ 0 := by rw [ordR_neg]; omega)
      have k1 : PLt l (D (s - 1)) (D e) := by
        by_cases e' : ordR (atR l (D (s - 1))) (atR l (D e)) = 0
        · exact .inr ⟨e', hX _ _ (by omega) (by omega) h3 (by omega) e'⟩
        · exact .inl (by omega)
      have k2 : PLt l (D i) (D e) := by
        by_cases e' : i = s - 1
        · rw [e']; exact k1
        · exact (hL i (s - 1) q1 (by omega) (by omega)).trans k1
      by_cases e' : j = e
      · rw [e']; exact k2
      · exact k2.trans (hR e j h3 (by omega) q4)
  · rcases hb with rfl | rfl | hb
    · omega
    · omega
    · have k1 : PLt l (D (e - 1)) (D s) := .inl hb
      have k2 : PLt l (D j) (D s) := by
        by_cases e' : j = e - 1
        · rw [e']; exact k1
        · exact (hR j (e - 1) q1 (by omega) (by omega)).trans k1
      by_cases e' : i = s
      · rw [e']; exact k2
      · exact k2.trans (hL s i h1 (by omega) q4)
def Piece (l : List Rx) (n : Nat) (D : Nat → Nat) (a bs : Nat) : Prop := SortedOn l D a (min (a + bs) n) ∧ ∀ x, a ≤ x → x < min (a + bs) n → a ≤ D x ∧ D x < a + bs
theorem Piece.out {l : List Rx} {n : Nat} {D E : Nat → Nat} {a bs a' b' : Nat} (h : Piece l n D a bs) (k : SegOn D E a' b') (ho : min (a + bs) n ≤ a' ∨ b' ≤ a) : Piece l n E a bs :=
  ⟨h.1.out k ho, fun x h1 h2 => by rw [k.1 x (by omega)]; exact h.2 x h1 h2⟩
theorem piece_cross {l : List Rx} {n : Nat} {D : Nat → Nat} {a bs : Nat} (h : Piece l n D a bs) (k : Piece l n D (a + bs) bs) : CrossOn l D a (a + bs) (min (a + 2 * bs) n) := fun i j q1 q2 q3 q4 _ => by
  have := (h.2 i q1 (by omega)).2; have := (k.2 j q3 (by omega)).1; omega
theorem piece_both {l : List Rx} {n : Nat} {D E : Nat → Nat} {a bs : Nat} (h : Piece l n D a bs) (k : Piece l n D (a + bs) bs) (hE : SegOn D E a (min (a + 2 * bs) n)) (hS : SortedOn l E a (min (a + 2 * bs) n)) : Piece l n E a (2 * bs) := by
  refine ⟨hS, fun x h1 h2 => ?_⟩; obtain ⟨j, j1, j2, e⟩ := hE.2.1 x h1 h2; rw [e]
  by_cases c : j < a + bs
  · have := h.2 j j1 (by omega); omega
  · have := k.2 j (by omega) (by omega); omega
theorem piece_last {l : List Rx} {n : Nat} {D : Nat → Nat} {a bs : Nat} (h : Piece l n D a bs) (hn : n ≤ a + bs) : Piece l n D a (2 * bs) :=
  ⟨h.1.part (Nat.le_refl _) (by omega), fun x h1 h2 => by have := h.2 x h1 (by omega); omega⟩
def Cov (n : Nat) (D : Nat → Nat) : Prop := ∀ j, j < n → ∃ i, i < n ∧ D i = j
theorem Cov.seg {n : Nat} {D E : Nat → Nat} {a b : Nat} (h : Cov n D) (k : SegOn D E a b) (hb : b ≤ n) : Cov n E := fun j hj => by
  obtain ⟨i, hi, e⟩ := h j hj
  by_cases c : a ≤ i ∧ i < b
  · obtain ⟨q, q1, q2, e'⟩ := k.2.2 i c.1 c.2; exact ⟨q, by omega, e'.trans e⟩
  · exact ⟨i, hi, (k.1 i c).trans e⟩
theorem perm_range : ∀ (n : Nat) (ds : List Nat), ds.length = n → (∀ x, x < n → x ∈ ds) → ds.Perm (List.range n)
  | 0, ds, h, _ => by rw [List.eq_nil_of_length_eq_zero h]; exact List.Perm.refl _
  | n + 1, ds, h, hm => by
    have hn := hm n (by omega); have hp := List.perm_cons_erase hn; have ih := perm_range n (ds.erase n) (by rw [List.length_erase_of_mem hn]; omega) fun x hx => (List.mem_erase_of_ne (by omega)).2 (hm x (by omega)); rw [List.range_succ]; exact hp.trans ((ih.cons n).trans (List.perm_append_singleton n (List.range n)).symm)
theorem placed_of {l : List Rx} {D : Nat → Nat} (h : Cov l.length D) (hs : SortedOn l D 0 l.length) : Placed l l.length ((List.range l.length).map D) := by
  refine ⟨perm_range _ _ (by simp) fun x hx => ?_, ?_⟩
  · obtain ⟨i, hi, e⟩ := h x hx; exact List.mem_map.2 ⟨i, by simpa using hi, e⟩
  · rw [List.pairwise_iff_getElem]; intro i j hi hj hij; simp only [List.length_map, List.length_range] at hi hj
    simpa using hs i j (Nat.zero_le _) hij hj
theorem map_set (D : Nat → Nat) (n i x : Nat) : ((List.range n).map D).set i x = (List.range n).map fun k => if k = i then x else D k := by
  refine List.ext_getElem (by simp) fun k h1 h2 => ?_; simp only [List.getElem_set, List.getElem_map, List.getElem_range]
  by_cases e : i = k
  · simp [e]
  · rw [if_neg e, if_neg fun h => e h.symm]
theorem map_swp (D : Nat → Nat) (n i j : Nat) (h : i ≠ j) : (((List.range n).map D).set i (D j)).set j (D i) = (List.range n).map (swp D i j) := by
  rw [map_set, map_set]
  congr 1
  funext k
  unfold swp
  by_cases e1 : k = i
  · subst e1; simp [h]
  · by_cases e2 : k = j
    · subst e2; rw [if_pos rfl, if_neg e1, if_pos rfl]
    · simp [e1, e2]
open Go.RowKit
theorem make_map (mb : Nat) (pl : Addr) (c0 c1 c2 c3 c4 c5 c6 c7 : Value) (w : World) (hp : w.cell? pl = some (.pointer (some ⟨mb, 0, none⟩))) (hB : MemB w mb c0 c1 c2 c3 c4 c5 c6 c7) :
    Calls Tryz.prog 73 #[.pointer (some pl)] w fun e w' => e = .returned (.tuple #[]) ∧ ∃ bm, w.heap.size ≤ bm ∧ w'.heap[bm]? = some (.map #[] 0) ∧ MemB w' mb c0 c1 c2 c3 c4 (.map (some bm)) c6 c7 ∧ Fm (At1 mb) w w' := by
  obtain ⟨-, ⟨-, a5, -, -⟩, fz⟩ := hB.cells; have a5' : (w.alloc (.map #[] 0)).cell? ⟨mb, 5, none⟩ = some c5 := (hB.alloc _).cells.2.1.2.1; have f5' : (w.alloc (.map #[] 0)).frozen? ⟨mb, 5, none⟩ = false := (hB.alloc _).cells.2.2 5; have hlt := hB.lt; have hmk := run_makeMap (P := Tryz.prog) 71 w; have HB := Lib.hid hB; clear hB; go_enter Tryz.func73, Tryz.ntmps73; go_wp2; go_end0; exact ⟨rfl, w.heap.size, Nat.le_refl _, blk_at _ _ (by simp [World.setCell]), (HB.out.set5 _).alloc _, ((Fm.refl _ w).set1 _).alloc1 _⟩
set_option maxRecDepth 100000 in
set_option maxHeartbeats 1600000 in
theorem slow_first (mb : Nat) (pl : Addr) (hpb : ¬ pl.block = mb) (c0 c1 c4 c5 c6 c7 : Value) (w : World) (hp : w.cell? pl = some (.pointer (some ⟨mb, 0, none⟩))) (hB : MemB w mb c0 c1 (.int .u32 0) (.int .i32 0) c4 c5 c6 c7) :
    Calls Tryz.prog 106 #[.pointer (some ⟨mb, 2, none⟩), .func (.func 73) #[] #[.pointer (some pl)]] w fun e w' => e = .returned (.tuple #[]) ∧ ∃ bm, w.heap.size ≤ bm ∧ w'.heap[bm]? = some (.map #[] 0) ∧ MemB w' mb c0 c1 (.int .u32 1) (.int .i32 0) c4 (.map (some bm)) c6 c7 ∧ Fm (At1 mb) w w' := by
  obtain ⟨⟨-, -, -, a3⟩, -, fz⟩ := hB.cells; have hnot : ∀ (x : Bool) (w : World), (Op.unary .not (.bool x)).run Tryz.prog w = .ok (.bool (!x)) w := fun _ _ => rfl; have f3 := fz 3; have HB := Lib.hid hB; have HP := Lib.hid hp; clear hB hp fz
  go_enter_defers Tryz.func106, Tryz.ntmps106
  go_wp2_with fail; refine (lock_free ⟨mb, 3, none⟩ _ a3 f3).mono ?_; rintro e w1 ⟨rfl, hw1⟩; (have B1 : MemB w1 mb c0 c1 (.int .u32 0) (.int .i32 1) c4 c5 c6 c7 := by rw [hw1]; exact HB.out.set3 _); (have P1 : w1.cell? pl = some (.pointer (some ⟨mb, 0, none⟩)) := by rw [hw1, World.cell?_setCell_other _ _ _ _ (fun h => hpb (by rw [← h]))]; exact HP.out); (have F1 : Fm (At1 mb) w w1 := by rw [hw1]; exact (Fm.refl _ w).set1 _); obtain ⟨⟨-, -, a2, -⟩, -, -⟩ := B1.cells; have hl := run_call_load (P := Tryz.prog) Tryz.func124 (by kernel_rfl) (by kernel_rfl) (by kernel_rfl) .u32 (by kernel_rfl) (w := w1) (a := ⟨mb, 2, none⟩) (x := 0) a2; have KM := Lib.hid (make_map mb pl _ _ _ _ _ _ _ _ w1 P1 B1); have FF := Lib.hid F1; clear hw1 B1 P1 F1 a3 f3; go_wp2_with (first | (go_at_call 105; go_in) | (go_at_call 73; refine KM.out.mono ?_; rintro e w2 ⟨rfl, hbm⟩)); obtain ⟨bm, hm1, hm2, B2, F2⟩ := hbm; obtain ⟨⟨-, -, a2', -⟩, -, fz⟩ := B2.cells; refine leaves_cons (f := 127) (args := #[.pointer (some ⟨mb, 2, none⟩), .bool true]) (by simp) (by simp [go_sem]) ?_; refine (store_deferred ⟨mb, 2, none⟩ _ .returning _ a2' (fz 2)).mono ?_; rintro e u3 w3 ⟨rfl, rfl, hw3⟩; (have B3 : MemB w3 mb c0 c1 (.int .u32 1) (.int .i32 1) c4 (.map (some bm)) c6 c7 := by rw [hw3]; exact (MemB.drew B2).set2 _); (have M3 : w3.heap[bm]? = some (.map #[] 0) := by rw [hw3, Below.heap_setCell _ _ _ _ (by have := B2.lt; have := KM; have h0 := HB.out.lt; have h1 := FF.out.size; show bm ≠ mb; omega)]; exact hm2); (have F3 : Fm (At1 mb) w w3 := by rw [hw3]; exact (FF.out.trans F2).drew1.set1 _); clear hw3; obtain ⟨⟨-, -, -, a3⟩, -, fz3⟩ := B3.cells; refine leaves_cons (f := 126) (args := #[.pointer (some ⟨mb, 3, none⟩)]) (by simp [settle]) (by simp [go_sem]) ?_; refine (unlock_deferred ⟨mb, 3, none⟩ _ _ a3 (fz3 3)).mono ?_; rintro e u4 w4 ⟨rfl, rfl, hw4⟩; (have B4 : MemB w4 mb c0 c1 (.int .u32 1) (.int .i32 0) c4 (.map (some bm)) c6 c7 := by rw [hw4]; exact B3.set3 _); (have M4 : w4.heap[bm]? = some (.map #[] 0) := by rw [hw4, Below.heap_setCell _ _ _ _ (by have h0 := HB.out.lt; have h1 := FF.out.size; show bm ≠ mb; omega)]; exact M3); (have F4 : Fm (At1 mb) w w4 := by rw [hw4]; exact F3.set1 _); exact ⟨_, results_none rfl _ _ _, rfl, bm, Nat.le_trans FF.out.size hm1, M4, B4, F4⟩
set_option maxRecDepth 100000 in
set_option maxHeartbeats 1600000 in
theorem once_first (mb : Nat) (pl : Addr) (hpb : ¬ pl.block = mb) (c0 c1 c4 c5 c6 c7 : Value) (w : World) (hp : w.cell? pl = some (.pointer (some ⟨mb, 0, none⟩))) (hB : MemB w mb c0 c1 (.int .u32 0) (.int .i32 0) c4 c5 c6 c7) :
    Calls Tryz.prog 72 #[.pointer (some ⟨mb, 2, none⟩), .func (.func 73) #[] #[.pointer (some pl)]] w fun e w' => e = .returned (.tuple #[]) ∧ ∃ bm, w.heap.size ≤ bm ∧ w'.heap[bm]? = some (.map #[] 0) ∧ MemB w' mb c0 c1 (.int .u32 1) (.int .i32 0) c4 (.map (some bm)) c6 c7 ∧ Fm (At1 mb) w w' := by
  obtain ⟨⟨-, -, a2, -⟩, -, -⟩ := hB.cells; have hl := run_call_load (P := Tryz.prog) Tryz.func124 (by kernel_rfl) (by kernel_rfl) (by kernel_rfl) .u32 (by kernel_rfl) (w := w) (a := ⟨mb, 2, none⟩) (x := 0) a2; have hnot : ∀ (x : Bool) (w : World), (Op.unary .not (.bool x)).run Tryz.prog w = .ok (.bool (!x)) w := fun _ _ => rfl; have KS := Lib.hid (slow_first mb pl hpb _ _ _ _ _ _ w hp hB); clear hp hB; go_enter Tryz.func72, Tryz.ntmps72; go_wp2_with (first | (go_at_call 106; refine KS.out.mono ?_; rintro e w' ⟨rfl, h⟩) | (go_at_call 105; go_in)); go_end0; exact ⟨rfl, h⟩
theorem once_done (a : Addr) (fv : Value) (w : World) (h0 : w.cell? a = some (.int .u32 1)) :
    Calls Tryz.prog 72 #[.pointer (some a), fv] w fun e w' => e = .returned (.tuple #[]) ∧ w' = w := by
  have hl := run_call_load (P := Tryz.prog) Tryz.func124 (by kernel_rfl) (by kernel_rfl) (by kernel_rfl) .u32 (by kernel_rfl) h0; have hnot : ∀ (x : Bool) (w : World), (Op.unary .not (.bool x)).run Tryz.prog w = .ok (.bool (!x)) w := fun _ _ => rfl; (have hd' : ((1 : Int) != 0) = true := by decide); go_enter Tryz.func72, Tryz.ntmps72; go_wp2; go_end0; exact ⟨rfl, rfl⟩
end Go.Proofs.YthgghaaddankoaaGreatDoor
