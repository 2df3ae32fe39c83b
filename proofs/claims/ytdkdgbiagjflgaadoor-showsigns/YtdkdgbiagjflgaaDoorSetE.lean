/- set.Less, set.Join, set.Meet. -/
import Derived.Test.YtdkdgbiagjflgaaDoorSetD
import Derived.Test.YtdkdgbiagjflgaaDoorSetX
import Derived.LoopN
namespace Go.Proofs.YtdkdgbiagjflgaaDoor
open Go.RowKit
/-- A slice of sets that was there. -/
def SetsAt (w : World) (a : Option Addr) (l : List Ws) : Prop :=
  l.length ≤ maxLen ∧ (∀ s ∈ l, s.Ok) ∧ (l = [] ∨ ∃ b off, a = some ⟨b, off, none⟩ ∧ b < w.heap.size ∧ ∀ i (h : i < l.length), w.cell? ⟨b, off + i * 4, none⟩ = some (.int .u64 l[i].a) ∧ w.cell? ⟨b, off + i * 4 + 1, none⟩ = some (.int .u64 l[i].b) ∧ w.cell? ⟨b, off + i * 4 + 2, none⟩ = some (.int .u64 l[i].c) ∧ w.cell? ⟨b, off + i * 4 + 3, none⟩ = some (.int .u64 l[i].d))
theorem SetsAt.below {w w' : World} {a : Option Addr} {l : List Ws} (h : SetsAt w a l) (hb : Below w.heap.size w w') : SetsAt w' a l := by
  obtain ⟨h2, ho, h3⟩ := h
  refine ⟨h2, ho, ?_⟩
  rcases h3 with h3 | ⟨b, off, rfl, hlt, hc⟩
  · exact .inl h3
  · refine .inr ⟨b, off, rfl, Nat.lt_of_lt_of_le hlt hb.size, fun i h => ?_⟩
    rw [hb.cell (p := ⟨b, off + i * 4, none⟩) hlt, hb.cell (p := ⟨b, off + i * 4 + 1, none⟩) hlt, hb.cell (p := ⟨b, off + i * 4 + 2, none⟩) hlt, hb.cell (p := ⟨b, off + i * 4 + 3, none⟩) hlt]
    exact hc i h
/-- The element of a slice of sets that a round reads. -/
theorem SetsAt.elem {w w' : World} {a : Option Addr} {l : List Ws} (h : SetsAt w a l) (hb : Below w.heap.size w w') {k : Nat} (hk : k < l.length) :
    ∃ b off s, a = some ⟨b, off, none⟩ ∧ b < w.heap.size ∧ l[k]? = some s ∧ s.Ok ∧ w'.cell? ⟨b, off + k * 4, none⟩ = some (.int .u64 s.a) ∧ w'.cell? ⟨b, off + k * 4 + 1, none⟩ = some (.int .u64 s.b) ∧ w'.cell? ⟨b, off + k * 4 + 2, none⟩ = some (.int .u64 s.c) ∧ w'.cell? ⟨b, off + k * 4 + 3, none⟩ = some (.int .u64 s.d) := by
  obtain ⟨_, ho, h3⟩ := h.below hb
  obtain ⟨_, _, h3'⟩ := h
  rcases h3 with h3 | ⟨b, off, rfl, _, hc⟩
  · subst h3; simp at hk
  · rcases h3' with h3' | ⟨b', off', he, hlt, _⟩
    · subst h3'; simp at hk
    · injection he with he; injection he with he1 he2; subst he1; subst he2
      exact ⟨b, off, l[k], rfl, hlt, List.getElem?_eq_getElem hk, ho _ (List.getElem_mem hk), hc k hk⟩
def foldInv (f : Ws → Ws → Ws) (z : Ws) (l : List Ws) (w : World) (g : Nat) (i : Value) (wr : World) : Prop := ∃ (k : Nat) (s : Ws), k ≤ l.length ∧ s = (l.take k).foldl f z ∧ i = .int .i64 k ∧ Box wr w.heap.size Ws.nil ∧ Box wr g s ∧ Below w.heap.size w wr
theorem fold_take {f : Ws → Ws → Ws} {z : Ws} {l : List Ws} {k : Nat} {s : Ws} (h : l[k]? = some s) : (l.take (k + 1)).foldl f z = f ((l.take k).foldl f z) s := by
  rw [List.take_add_one, h]; simp
theorem fold_ok {f : Ws → Ws → Ws} (hf : ∀ s t : Ws, s.Ok → t.Ok → (f s t).Ok) {z : Ws} (hz : z.Ok) {l : List Ws} (hl : ∀ s ∈ l, s.Ok) : (l.foldl f z).Ok := by
  induction l generalizing z with
  | nil => exact hz
  | cons x t ih => exact ih (hf _ _ hz (hl x (List.mem_cons_self ..))) fun s hs => hl s (List.mem_cons_of_mem _ hs)
set_option maxHeartbeats 1000000 in
theorem everyByte_any (w : World) :
    Calls Tryd.prog 59 #[] w fun e w' => e = .returned Ws.full.v ∧ Below w.heap.size w w' := by
  go_enter Tryd.func59, Tryd.ntmps59
  go_wp2
  exact ret_box (Box.new4 w 18446744073709551615 18446744073709551615 18446744073709551615 18446744073709551615) Tryd.results59 rfl rfl ⟨rfl, (Below.refl _ w).alloc (Nat.le_refl _) _⟩
end Go.Proofs.YtdkdgbiagjflgaaDoor
