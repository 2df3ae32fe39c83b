/- Expressions as trees, and how they lie in memory: six cells a node; the rows of kids lie in blocks that a predicate allows. -/
import Derived.Test.YtdkdgbiagjflgaaDoorSetA
namespace Go.Proofs.YtdkdgbiagjflgaaDoor
open Go.RowKit
inductive Rx where
  | node (kind : Nat) (s : Ws) (kids : List Rx)
def Rx.kids : Rx → List Rx
  | .node _ _ ks => ks
mutual
def Rx.size : Rx → Nat
  | .node _ _ ks => 1 + Rx.sizes ks
def Rx.sizes : List Rx → Nat
  | [] => 0
  | r :: rs => r.size + Rx.sizes rs
end
theorem Rx.size_pos (r : Rx) : 0 < r.size := by
  obtain ⟨k, s, ks⟩ := r
  unfold Rx.size; omega
theorem sizes_append (a b : List Rx) : Rx.sizes (a ++ b) = Rx.sizes a + Rx.sizes b := by
  induction a with
  | nil => simp [Rx.sizes]
  | cons x t ih => simp [Rx.sizes, ih]; omega
theorem sizes_take (l : List Rx) (i : Nat) (h : i < l.length) : Rx.sizes (l.take (i + 1)) = Rx.sizes (l.take i) + l[i].size := by
  rw [List.take_succ_eq_append_getElem h, sizes_append]
  simp [Rx.sizes]
theorem sizes_take_le (l : List Rx) (i : Nat) : Rx.sizes (l.take i) ≤ Rx.sizes l := by
  have := sizes_append (l.take i) (l.drop i)
  rw [List.take_append_drop] at this; omega
theorem size_kid {l : List Rx} {i : Nat} (h : i < l.length) : l[i].size ≤ Rx.sizes l := by
  have h1 := sizes_take l i h
  have h2 := sizes_take_le l (i + 1)
  omega
theorem length_le_sizes (l : List Rx) : l.length ≤ Rx.sizes l := by
  induction l with
  | nil => simp [Rx.sizes]
  | cons x t ih => have := x.size_pos; simp [Rx.sizes]; omega
mutual
def NodeAt (ok : Nat → Prop) (w : World) (b off : Nat) : Rx → Prop
  | .node k s ks => k < 256 ∧ s.Ok ∧ (w.cell? ⟨b, off, none⟩ = some (.int .u8 k) ∧ w.cell? ⟨b, off + 1, none⟩ = some (.int .u64 s.a) ∧ w.cell? ⟨b, off + 2, none⟩ = some (.int .u64 s.b) ∧ w.cell? ⟨b, off + 3, none⟩ = some (.int .u64 s.c) ∧ w.cell? ⟨b, off + 4, none⟩ = some (.int .u64 s.d)) ∧
      ∃ al cap, w.cell? ⟨b, off + 5, none⟩ = some (.slice al ks.length cap) ∧ ks.length ≤ cap ∧ ks.length < 2199023255552 ∧ (ks = [] ∨ ∃ b' off', al = some ⟨b', off', none⟩ ∧ b' < w.heap.size ∧ ok b' ∧ NodesAt ok w b' off' ks)
def NodesAt (ok : Nat → Prop) (w : World) (b off : Nat) : List Rx → Prop
  | [] => True
  | r :: rs => NodeAt ok w b off r ∧ NodesAt ok w b (off + 6) rs
end
/-- A slice of expressions. -/
def RowAt (ok : Nat → Prop) (w : World) (al : Option Addr) (ks : List Rx) : Prop := ks = [] ∨ ∃ b off, al = some ⟨b, off, none⟩ ∧ b < w.heap.size ∧ ok b ∧ NodesAt ok w b off ks
/-- An expression by value. -/
def ReAt (ok : Nat → Prop) (w : World) (v : Value) : Rx → Prop
  | .node k s ks => k < 256 ∧ s.Ok ∧ ∃ al cap, v = .agg #[.int .u8 k, .int .u64 s.a, .int .u64 s.b, .int .u64 s.c, .int .u64 s.d, .slice al ks.length cap] ∧ ks.length ≤ cap ∧ ks.length < 2199023255552 ∧ RowAt ok w al ks
theorem nodesAt_get {ok : Nat → Prop} {w : World} {b : Nat} : ∀ {ks : List Rx} {off : Nat}, NodesAt ok w b off ks → ∀ i (h : i < ks.length), NodeAt ok w b (off + i * 6) ks[i]
  | [], _, _, i, h => absurd h (Nat.not_lt_zero _)
  | r :: rs, off, hN, i, h => by
    unfold NodesAt at hN
    cases i with
    | zero => simpa using hN.1
    | succ i =>
      have := nodesAt_get hN.2 i (by simpa using h)
      rw [show off + (i + 1) * 6 = off + 6 + i * 6 from by omega]
      simpa using this
theorem nodesAt_of {ok : Nat → Prop} {w : World} {b : Nat} : ∀ {ks : List Rx} {off : Nat}, (∀ i (h : i < ks.length), NodeAt ok w b (off + i * 6) ks[i]) → NodesAt ok w b off ks
  | [], _, _ => by unfold NodesAt; trivial
  | r :: rs, off, h => by
    unfold NodesAt
    have h0 := h 0 (by simp)
    simp only [Nat.zero_mul, Nat.add_zero, List.getElem_cons_zero] at h0
    refine ⟨h0, nodesAt_of fun i hi => ?_⟩
    have := h (i + 1) (by simpa using hi)
    rw [show off + (i + 1) * 6 = off + 6 + i * 6 from by omega] at this
    simpa using this
/-- A node that is read out of its six cells. -/
theorem NodeAt.read {ok : Nat → Prop} {w : World} {b off : Nat} {k : Nat} {s : Ws} {ks : List Rx} (h : NodeAt ok w b off (.node k s ks)) :
    ∃ al cap, (w.cell? ⟨b, off, none⟩ = some (.int .u8 k) ∧ w.cell? ⟨b, off + 1, none⟩ = some (.int .u64 s.a) ∧ w.cell? ⟨b, off + 2, none⟩ = some (.int .u64 s.b) ∧ w.cell? ⟨b, off + 3, none⟩ = some (.int .u64 s.c) ∧ w.cell? ⟨b, off + 4, none⟩ = some (.int .u64 s.d) ∧ w.cell? ⟨b, off + 5, none⟩ = some (.slice al ks.length cap)) ∧
      ReAt ok w (.agg #[.int .u8 k, .int .u64 s.a, .int .u64 s.b, .int .u64 s.c, .int .u64 s.d, .slice al ks.length cap]) (.node k s ks) := by
  unfold NodeAt at h
  obtain ⟨hk, hs, ⟨c0, c1, c2, c3, c4⟩, al, cap, c5, h1, h2, h3⟩ := h
  exact ⟨al, cap, ⟨c0, c1, c2, c3, c4, c5⟩, hk, hs, al, cap, rfl, h1, h2, h3⟩
/-- What the allowed blocks hold is kept, and they are allowed still. -/
def Kept (ok ok' : Nat → Prop) (w w' : World) : Prop := w.heap.size ≤ w'.heap.size ∧ ∀ b, b < w.heap.size → ok b → ok' b ∧ w'.heap[b]? = w.heap[b]?
mutual
theorem NodeAt.go {ok ok' : Nat → Prop} {w w' : World} (hk : Kept ok ok' w w') : ∀ (r : Rx) {b off : Nat}, w'.heap[b]? = w.heap[b]? → NodeAt ok w b off r → NodeAt ok' w' b off r
  | .node k s ks, b, off, hb, h => by
    unfold NodeAt at h ⊢
    obtain ⟨h0, hs, ⟨c0, c1, c2, c3, c4⟩, al, cap, c5, h1, h2, h3⟩ := h
    have e : ∀ o, w'.cell? ⟨b, o, none⟩ = w.cell? ⟨b, o, none⟩ := fun o => World.cell?_of_block (w := w) (a := ⟨b, o, none⟩) hb
    refine ⟨h0, hs, ⟨by rw [e]; exact c0, by rw [e]; exact c1, by rw [e]; exact c2, by rw [e]; exact c3, by rw [e]; exact c4⟩, al, cap, by rw [e]; exact c5, h1, h2, ?_⟩
    rcases h3 with h3 | ⟨b', off', e1, e2, e3, e4⟩
    · exact .inl h3
    · have hh := hk.2 b' e2 e3
      exact .inr ⟨b', off', e1, Nat.lt_of_lt_of_le e2 hk.1, hh.1, NodesAt.go hk ks hh.2 e4⟩
theorem NodesAt.go {ok ok' : Nat → Prop} {w w' : World} (hk : Kept ok ok' w w') : ∀ (ks : List Rx) {b off : Nat}, w'.heap[b]? = w.heap[b]? → NodesAt ok w b off ks → NodesAt ok' w' b off ks
  | [], _, _, _, _ => by unfold NodesAt; trivial
  | r :: rs, b, off, hb, h => by
    unfold NodesAt at h ⊢
    exact ⟨NodeAt.go hk r hb h.1, NodesAt.go hk rs hb h.2⟩
end
theorem RowAt.go {ok ok' : Nat → Prop} {w w' : World} {al : Option Addr} {ks : List Rx} (h : RowAt ok w al ks) (hk : Kept ok ok' w w') : RowAt ok' w' al ks := by
  rcases h with h | ⟨b, off, e, hlt, ho, h⟩
  · exact .inl h
  · have hh := hk.2 b hlt ho
    exact .inr ⟨b, off, e, Nat.lt_of_lt_of_le hlt hk.1, hh.1, NodesAt.go hk ks hh.2 h⟩
theorem ReAt.go {ok ok' : Nat → Prop} {w w' : World} {v : Value} {r : Rx} (h : ReAt ok w v r) (hk : Kept ok ok' w w') : ReAt ok' w' v r := by
  obtain ⟨k, s, ks⟩ := r
  obtain ⟨h0, hs, al, cap, e, h1, h2, h3⟩ := h
  exact ⟨h0, hs, al, cap, e, h1, h2, h3.go hk⟩
theorem keptB {w w' : World} (hb : Below w.heap.size w w') (ok : Nat → Prop) : Kept ok ok w w' := ⟨hb.size, fun b h1 h2 => ⟨h2, hb.block b h1⟩⟩
theorem NodeAt.below {ok : Nat → Prop} {w w' : World} (hb : Below w.heap.size w w') (r : Rx) {b off : Nat} (hlt : b < w.heap.size) (h : NodeAt ok w b off r) : NodeAt ok w' b off r := NodeAt.go (keptB hb ok) r (hb.block b hlt) h
theorem NodesAt.below {ok : Nat → Prop} {w w' : World} (hb : Below w.heap.size w w') (ks : List Rx) {b off : Nat} (hlt : b < w.heap.size) (h : NodesAt ok w b off ks) : NodesAt ok w' b off ks := NodesAt.go (keptB hb ok) ks (hb.block b hlt) h
theorem RowAt.below {ok : Nat → Prop} {w w' : World} {al : Option Addr} {ks : List Rx} (h : RowAt ok w al ks) (hb : Below w.heap.size w w') : RowAt ok w' al ks := h.go (keptB hb ok)
theorem ReAt.below {ok : Nat → Prop} {w w' : World} {v : Value} {r : Rx} (h : ReAt ok w v r) (hb : Below w.heap.size w w') : ReAt ok w' v r := h.go (keptB hb ok)
theorem ReAt.imp {ok ok' : Nat → Prop} {w : World} {v : Value} {r : Rx} (h : ReAt ok w v r) (hi : ∀ b, b < w.heap.size → ok b → ok' b) : ReAt ok' w v r := h.go ⟨Nat.le_refl _, fun b h1 h2 => ⟨hi b h1 h2, rfl⟩⟩
theorem RowAt.imp {ok ok' : Nat → Prop} {w : World} {al : Option Addr} {ks : List Rx} (h : RowAt ok w al ks) (hi : ∀ b, b < w.heap.size → ok b → ok' b) : RowAt ok' w al ks := h.go ⟨Nat.le_refl _, fun b h1 h2 => ⟨hi b h1 h2, rfl⟩⟩
/-- The kid that a round reads. -/
theorem RowAt.kid {ok : Nat → Prop} {w : World} {al : Option Addr} {ks : List Rx} (h : RowAt ok w al ks) {i : Nat} (hi : i < ks.length) :
    ∃ b off, al = some ⟨b, off, none⟩ ∧ b < w.heap.size ∧ NodeAt ok w b (off + i * 6) ks[i] := by
  rcases h with h | ⟨b, off, e, hlt, _, h⟩
  · subst h; simp at hi
  · exact ⟨b, off, e, hlt, nodesAt_get h i hi⟩
theorem RowAt.kidOk {ok : Nat → Prop} {w : World} {al : Option Addr} {ks : List Rx} (h : RowAt ok w al ks) {i : Nat} (hi : i < ks.length) :
    ∃ b off, al = some ⟨b, off, none⟩ ∧ b < w.heap.size ∧ ok b ∧ NodeAt ok w b (off + i * 6) ks[i] := by
  rcases h with h | ⟨b, off, e, hlt, ho, h⟩
  · subst h; simp at hi
  · exact ⟨b, off, e, hlt, ho, nodesAt_get h i hi⟩
end Go.Proofs.YtdkdgbiagjflgaaDoor
