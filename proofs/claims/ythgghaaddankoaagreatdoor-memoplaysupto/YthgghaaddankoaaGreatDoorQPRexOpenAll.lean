/- Lemmas of mine, merged: QPRexOpen, QPMemO. -/
import Derived.ProofKit
import Derived.OpenShut
import Derived.ShutString
import Derived.ChangeOld
import Derived.Laws.IdiomArrays
import Derived.Deep.Slices
import Derived.Deep.Strs
import Derived.SizedLaws
import Derived.Carry
import Derived.Test.YthgghaaddankoaaGreatDoorQPRexBAll
import Derived.ChangeArms
/- Lemmas of mine. -/
namespace Go.Proofs.YthgghaaddankoaaGreatDoor
open Go.ChangeShapes Go.WideShapes Go.ChangeAt Go.RowKit Go.Deep
set_option maxRecDepth 100000 in
theorem own : ownKnob Tryz.prog.godebug = none := by kernel_rfl
set_option maxRecDepth 100000 in
theorem laidOut : laidOutB Tryz.prog = true := by kernel_rfl
set_option maxRecDepth 100000 in
theorem cellsW : Tryz.prog.cellsOf 35 = 1 := by kernel_rfl
set_option maxRecDepth 100000 in
theorem cellsS : Tryz.prog.cellsOf 37 = 4 := by kernel_rfl
set_option maxRecDepth 100000 in
theorem cellsRe : Tryz.prog.cellsOf 39 = 6 := by kernel_rfl
set_option maxRecDepth 100000 in
theorem cellsB : Tryz.prog.cellsOf 5 = 1 := by kernel_rfl
set_option maxRecDepth 100000 in
theorem cellsL : Tryz.prog.cellsOf 27 = 1 := by kernel_rfl
set_option maxRecDepth 100000 in
theorem bytesRe : Tryz.prog.bytesOf 39 = 64 := by kernel_rfl
set_option maxRecDepth 100000 in
theorem u64_nat {n : Int} (h : (Lit.int .u64 n).wf = true) : ∃ m : Nat, n = m ∧ m < 18446744073709551616 := by
  simp [Lit.wf, IntKind.min, IntKind.max, IntKind.signed, IntKind.bits] at h; exact ⟨n.toNat, by omega, by omega⟩
set_option maxRecDepth 100000 in
theorem u8_nat {n : Int} (h : (Lit.int .u8 n).wf = true) : ∃ m : Nat, n = m ∧ m < 256 := by
  simp [Lit.wf, IntKind.min, IntKind.max, IntKind.signed, IntKind.bits] at h; exact ⟨n.toNat, by omega, by omega⟩
section
variable {H : Type} {enc : TypeId × Value → H} {W : World} {held : Bool}
set_option maxRecDepth 100000 in
theorem set_of_cells {fuel : Nat} {c0 c1 c2 c3 : Value} {x : DataW H × List MemPlace}
    (h : DataW.trod enc Tryz.prog W 0 (fun _ => true) held fuel 37 [c0, c1, c2, c3] = some x) : ∃ s : Ws, s.Ok ∧ c0 = .int .u64 s.a ∧ c1 = .int .u64 s.b ∧ c2 = .int .u64 s.c ∧ c3 = .int .u64 s.d := by
  obtain ⟨y0, y1, y2, y3, m, _, hy0, hy1, hy2, hy3⟩ := trod_array4 Tryz.underlying37 cellsW h; obtain ⟨x0, e0, _, w0⟩ := DataW.trod_int Tryz.underlying35 hy0; obtain ⟨x1, e1, _, w1⟩ := DataW.trod_int Tryz.underlying35 hy1; obtain ⟨x2, e2, _, w2⟩ := DataW.trod_int Tryz.underlying35 hy2; obtain ⟨x3, e3, _, w3⟩ := DataW.trod_int Tryz.underlying35 hy3; simp at e0 e1 e2 e3; obtain ⟨m0, rfl, h0⟩ := u64_nat w0; obtain ⟨m1, rfl, h1⟩ := u64_nat w1; obtain ⟨m2, rfl, h2⟩ := u64_nat w2; obtain ⟨m3, rfl, h3⟩ := u64_nat w3; exact ⟨⟨m0, m1, m2, m3⟩, ⟨h0, h1, h2, h3⟩, e0, e1, e2, e3⟩
def All : Nat → Prop := fun _ => True
def CellsRe (W : World) (cs : List Value) (r : Rx) : Prop := ∃ c0 c1 c2 c3 c4 c5, cs = [c0, c1, c2, c3, c4, c5] ∧ ReAt All W (.agg #[c0, c1, c2, c3, c4, c5]) r
def Light (t : TypeId) (d : DataW H) : Prop := ∀ n ∈ d.weights Tryz.prog t, n ≤ reachBytes
set_option maxRecDepth 100000 in
theorem list_of_each {α : Type} {P : Nat → α → Prop} : ∀ n : Nat, (∀ i, i < n → ∃ a, P i a) → ∃ l : List α, l.length = n ∧ ∀ i (h : i < l.length), P i l[i]
  | 0, _ => ⟨[], rfl, fun i h => absurd h (Nat.not_lt_zero _)⟩
  | n + 1, h => by
    obtain ⟨l, hl, hp⟩ := list_of_each n fun i hi => h i (by omega); obtain ⟨a, ha⟩ := h n (by omega); refine ⟨l ++ [a], by simp [hl], fun i hi => ?_⟩
    by_cases e : i < l.length
    · rw [List.getElem_append_left e]; exact hp i e
    · (have : i = n := by simp at hi; omega); subst this; rw [List.getElem_append_right (by omega)]; simp [hl]; exact ha
set_option maxRecDepth 100000 in
theorem weights_all {e : TypeId} {l : List (DataW H)} {d : DataW H} (h : d ∈ l) {n : Nat} (hn : n ∈ d.weights Tryz.prog e) : n ∈ DataW.weightsAll Tryz.prog e l := by
  induction l with
  | nil => cases h
  | cons x t ih =>
    simp only [DataW.weightsAll, List.mem_append]
    cases List.mem_cons.1 h with
    | inl q => subst q; exact .inl hn
    | inr q => exact .inr (ih q)
set_option maxRecDepth 100000 in
theorem sizes_bulk : ∀ (l : List Rx) (E : List (DataW H)), l.length = E.length → (∀ i (h : i < l.length) (h' : i < E.length), l[i].size ≤ Rows.uptoBulk E[i]) → Rx.sizes l ≤ Rows.uptoBulkAll E
  | [], _, _, _ => by simp [Rx.sizes]
  | r :: t, [], h, _ => by simp at h
  | r :: t, d :: E, h, hs => by
    have h0 := hs 0 (by simp) (by simp)
    have ih := sizes_bulk t E (by simpa using h) fun i h1 h2 => by
      have := hs (i + 1) (by simpa using h1) (by simpa using h2)
      simpa using this
    simp only [List.getElem_cons_zero] at h0; simp only [Rx.sizes, Rows.uptoBulkAll]; omega
set_option maxRecDepth 100000 in
theorem open_row_of {F : Nat} (hF : ∀ fuel, fuel < F → ∀ cs x, DataW.trod enc Tryz.prog W 0 (fun _ => true) held fuel 39 cs = some x → Light 39 x.1 → ∃ r, CellsRe W cs r ∧ r.size ≤ Rows.uptoBulk x.1)
    {fuel : Nat} (hf : fuel ≤ F) {c : Value} {x : DataW H × List MemPlace} (h : DataW.trod enc Tryz.prog W 0 (fun _ => true) held fuel 27 [c] = some x) (hw : Light 27 x.1) :
    ∃ (al : Option Addr) (cap : Nat) (ks : List Rx), c = .slice al ks.length cap ∧ ks.length ≤ cap ∧ ks.length < 2199023255552 ∧ RowAt All W al ks ∧ Rx.sizes ks ≤ Rows.uptoBulk x.1 := by
  rcases DataW.trod_slice Tryz.underlying27 h with ⟨hcs, hx⟩ | ⟨a, len, cap, elems, rest, n, hn, hcs, hx, hb, hl, hm, hlen, hel, hsp, hns⟩
  · simp at hcs; exact ⟨none, 0, [], hcs, Nat.le_refl _, by decide, .inl rfl, by simp [Rx.sizes]⟩
  · simp at hcs; subst hx
    have hwt : (elems.length + rest.length) * 64 ≤ reachBytes := by
      have := hw ((elems.length + rest.length) * 64) (by simp [DataW.weights, Tryz.underlying27, bytesRe]); exact this
    have hlight : ∀ d ∈ elems.map (·.1), Light 39 d := fun d hd m hmm => hw m (by
      simp only [DataW.weights, Tryz.underlying27, List.mem_cons, List.mem_append]
      exact .inr (.inl (weights_all hd hmm)))
    have each : ∀ i, i < len → ∃ r : Rx, (∃ h : i < elems.length, r.size ≤ Rows.uptoBulk elems[i].1) ∧ ∃ cs', CellsRe W cs' r ∧ W.cells? 0 (a.add (i * 6)) 6 = some cs' := by
      intro i hi; have he := hel i hi; rw [cellsRe, List.getElem?_eq_getElem (by omega)] at he; obtain ⟨cs', hc, ht⟩ := Option.bind_eq_some_iff.1 he; obtain ⟨r, hr, hsz⟩ := hF n (by omega) cs' _ ht (hlight _ (List.mem_map.2 ⟨_, List.getElem_mem (by omega), rfl⟩)); exact ⟨r, ⟨by omega, hsz⟩, cs', hr, hc⟩
    obtain ⟨ks, hkl, hP⟩ := list_of_each len each; (have hr47 : reachBytes < 140737488355328 := by decide); refine ⟨some a, cap, ks, by rw [hkl]; exact hcs, by omega, by omega, ?_, ?_⟩
    · by_cases hz : ks = []
      · exact .inl hz
      · have hpos : 0 < ks.length := List.length_pos_iff.2 hz
        have cell : ∀ i (h : i < ks.length), ∃ c0 c1 c2 c3 c4 c5, ReAt All W (.agg #[c0, c1, c2, c3, c4, c5]) ks[i] ∧ W.cell? (a.add (i * 6)) = some c0 ∧ W.cell? ((a.add (i * 6)).add 1) = some c1 ∧ W.cell? ((a.add (i * 6)).add 2) = some c2 ∧ W.cell? ((a.add (i * 6)).add 3) = some c3 ∧ W.cell? ((a.add (i * 6)).add 4) = some c4 ∧ W.cell? ((a.add (i * 6)).add 5) = some c5 := by
          intro i hi; obtain ⟨_, cs', ⟨c0, c1, c2, c3, c4, c5, rfl, hre⟩, hc⟩ := hP i hi; obtain ⟨_, _, hat⟩ := World.cells?_some hc; have e0 := hat 0 (by decide); (have ez : (a.add (i * 6)).add 0 = a.add (i * 6) := by simp [Addr.add]); rw [ez] at e0; exact ⟨c0, c1, c2, c3, c4, c5, hre, e0, hat 1 (by decide), hat 2 (by decide), hat 3 (by decide), hat 4 (by decide), hat 5 (by decide)⟩
        obtain ⟨b, off, spot⟩ := a; obtain ⟨c0, _, _, _, _, _, _, e0, _⟩ := cell 0 hpos; (have hspot : spot = none := by simpa [Addr.add] using World.cell?_spot e0); subst hspot
        have hlt : b < W.heap.size := by
          rw [Go.WideShapes.add_plain] at e0; exact box_lt e0
        refine .inr ⟨b, off, rfl, hlt, trivial, nodesAt_of fun i hi => ?_⟩; obtain ⟨d0, d1, d2, d3, d4, d5, hre, a0, a1, a2, a3, a4, a5⟩ := cell i hi; rw [Go.WideShapes.add_plain] at a0 a1 a2 a3 a4 a5; rw [Go.WideShapes.add_plain] at a1 a2 a3 a4 a5; exact node_at hre a0 a1 a2 a3 a4 a5
    · have := sizes_bulk ks (elems.map (·.1)) (by simp [hkl, hlen]) fun i h1 h2 => by
        obtain ⟨⟨_, hs⟩, _⟩ := hP i h1
        simpa using hs
      simp only [Rows.uptoBulk]; omega
set_option maxRecDepth 100000 in
theorem open_cells (F : Nat) : ∀ fuel, fuel < F → ∀ cs x, DataW.trod enc Tryz.prog W 0 (fun _ => true) held fuel 39 cs = some x → Light 39 x.1 → ∃ r, CellsRe W cs r ∧ r.size ≤ Rows.uptoBulk x.1 := by
  induction F with
  | zero => intro fuel h; omega
  | succ F ih =>
    intro fuel hfl cs x h hw; obtain ⟨xs, n, hn, rfl, hl, hlen, hf⟩ := DataW.trod_struct Tryz.underlying39 h; rw [cellsRe] at hl
    match cs, hl with
    | [c0, c1, c2, c3, c4, c5], _ =>
    match xs, hlen with
    | [y0, y1, y2], _ =>
      have h0 := hf 0 _ rfl; have h1 := hf 1 _ rfl; have h2 := hf 2 _ rfl; simp [cellsB, cellsS, cellsL] at h0 h1 h2; obtain ⟨k, e0, _, w0⟩ := DataW.trod_int Tryz.underlying5 h0; simp at e0; obtain ⟨k, rfl, hk⟩ := u8_nat w0; obtain ⟨s, hs, rfl, rfl, rfl, rfl⟩ := set_of_cells h1
      have hlight : Light 27 y2.1 := fun m hm => hw m (by
        simp only [DataW.weights, Tryz.underlying39]
        simp [DataW.weightsEach, hm])
      obtain ⟨al, cap, ks, rfl, g1, g2, g3, g4⟩ := open_row_of (F := F) ih (fuel := n) (by omega) h2 hlight; subst e0; refine ⟨.node k s ks, ⟨_, _, _, _, _, _, rfl, hk, hs, al, cap, rfl, g1, g2, g3⟩, ?_⟩; simp only [Rx.size, List.map, Rows.uptoBulk, Rows.uptoBulkAll]; omega
end
end Go.Proofs.YthgghaaddankoaaGreatDoor
/- Lemmas of mine. -/
namespace Go.Proofs.YthgghaaddankoaaGreatDoor
open Go.ChangeShapes Go.WideShapes Go.ChangeAt Go.RowKit Go.Deep
set_option maxRecDepth 100000 in
theorem cellsBool : Tryz.prog.cellsOf 4 = 1 := by kernel_rfl
set_option maxRecDepth 100000 in
theorem cellsAct : Tryz.prog.cellsOf 32 = 2 := by kernel_rfl
set_option maxRecDepth 100000 in
theorem bytesAct : Tryz.prog.bytesOf 32 = 32 := by kernel_rfl
section
variable {H : Type} {enc : TypeId × Value → H} {W : World} {held : Bool}
def CellsAct (W : World) (cs : List Value) (a : Bool × List Rx) : Prop := ∃ al cap, cs = [.bool a.1, .slice al a.2.length cap] ∧ a.2.length ≤ cap ∧ a.2.length < 2199023255552 ∧ RowAt All W al a.2
theorem bulk_mem {d : DataW H} : ∀ {l : List (DataW H)}, d ∈ l → Rows.uptoBulk d ≤ Rows.uptoBulkAll l
  | x :: t, h => by
    simp only [Rows.uptoBulkAll]
    rcases List.mem_cons.1 h with rfl | h
    · omega
    · have := bulk_mem h; omega
set_option maxRecDepth 100000 in
theorem open_act {n : Nat} {cs : List Value} {x : DataW H × List MemPlace} (h : DataW.trod enc Tryz.prog W 0 (fun _ => true) held n 32 cs = some x) (hw : Light 32 x.1) :
    ∃ a : Bool × List Rx, CellsAct W cs a ∧ Rx.sizes a.2 ≤ Rows.uptoBulk x.1 := by
  obtain ⟨xs, n, hn, rfl, hl, hlen, hf⟩ := DataW.trod_struct Tryz.underlying32 h; rw [cellsAct] at hl
  match cs, hl with
  | [c0, c1], _ =>
  match xs, hlen with
  | [y0, y1], _ =>
    have h0 := hf 0 _ rfl; have h1 := hf 1 _ rfl; simp [cellsBool, cellsL] at h0 h1; obtain ⟨b, e0, _⟩ := DataW.trod_bool Tryz.underlying4 h0; simp at e0
    have hlight : Light 27 y1.1 := fun m hm => hw m (by
      simp only [DataW.weights, Tryz.underlying32]
      simp [DataW.weightsEach, hm])
    obtain ⟨al, cap, ks, rfl, g1, g2, g3, g4⟩ := open_row_of (F := n) (open_cells n) (Nat.le_refl _) h1 hlight; subst e0; refine ⟨(b, ks), ⟨al, cap, rfl, g1, g2, g3⟩, ?_⟩; simp only [List.map, Rows.uptoBulk, Rows.uptoBulkAll]; omega
set_option maxRecDepth 100000 in
theorem open_acts {v : Value} {d : DataW H} {p : List MemPlace} {r : Reach} {b0 : Nat} (hv : Value.okWide Tryz.prog W r b0 22 v) (h : DataW.Trod enc Tryz.prog W 0 (fun _ => true) held 22 v d p) (hw : Light 22 d) :
    ∃ (al : Option Addr) (cap : Nat) (L : List (Bool × List Rx)), v = .slice al L.length cap ∧ L.length < 4398046511104 ∧ ActsAt W al L ∧ ∀ a ∈ L, Rx.sizes a.2 ≤ Rows.uptoBulk d := by
  obtain ⟨a, len, cap, rfl⟩ := okWide_slice Tryz.underlying22 hv; obtain ⟨fuel, hf⟩ := h
  rcases DataW.trod_slice (cs := [.slice a len cap]) Tryz.underlying22 (by simpa [Value.cells] using hf) with ⟨hcs, hx⟩ | ⟨a', len', cap', elems, rest, n, hn, hcs, hx, hb, hl, hm, hlen, hel, hsp, hns⟩
  · simp at hcs; obtain ⟨rfl, rfl, rfl⟩ := hcs; exact ⟨none, 0, [], rfl, by decide, .inl rfl, fun a h => by cases h⟩
  · simp at hcs; obtain ⟨rfl, rfl, rfl⟩ := hcs; obtain ⟨rfl, -⟩ := Prod.mk.inj hx
    have hwt : (elems.length + rest.length) * 32 ≤ reachBytes := by
      have := hw ((elems.length + rest.length) * 32) (by simp [DataW.weights, Tryz.underlying22, bytesAct]); exact this
    have hlight : ∀ d ∈ elems.map (·.1), Light 32 d := fun d hd m hmm => hw m (by
      simp only [DataW.weights, Tryz.underlying22, List.mem_cons, List.mem_append]
      exact .inr (.inl (weights_all hd hmm)))
    have each : ∀ i, i < len → ∃ q : Bool × List Rx, (∃ h : i < elems.length, Rx.sizes q.2 ≤ Rows.uptoBulk elems[i].1) ∧ ∃ cs', CellsAct W cs' q ∧ W.cells? 0 (a'.add (i * 2)) 2 = some cs' := by
      intro i hi; have he := hel i hi; rw [cellsAct, List.getElem?_eq_getElem (by omega)] at he; obtain ⟨cs', hc, ht⟩ := Option.bind_eq_some_iff.1 he; obtain ⟨q, hq, hsz⟩ := open_act ht (hlight _ (List.mem_map.2 ⟨_, List.getElem_mem (by omega), rfl⟩)); exact ⟨q, ⟨by omega, hsz⟩, cs', hq, hc⟩
    obtain ⟨L, hkl, hP⟩ := list_of_each len each; (have hr47 : reachBytes < 140737488355328 := by decide); refine ⟨some a', cap, L, by rw [hkl], by omega, ?_, ?_⟩
    · by_cases hz : L = []
      · exact .inl hz
      · have hpos : 0 < L.length := List.length_pos_iff.2 hz
        have cell : ∀ i (h : i < L.length), ∃ al cap, (W.cell? (a'.add (i * 2)) = some (.bool L[i].1) ∧ W.cell? ((a'.add (i * 2)).add 1) = some (.slice al L[i].2.length cap)) ∧ L[i].2.length ≤ cap ∧ L[i].2.length < 2199023255552 ∧ RowAt All W al L[i].2 := by
          intro i hi; obtain ⟨_, cs', ⟨al, cap, rfl, hre⟩, hc⟩ := hP i hi; obtain ⟨_, _, hat⟩ := World.cells?_some hc; have e0 := hat 0 (by decide); (have ez : (a'.add (i * 2)).add 0 = a'.add (i * 2) := by simp [Addr.add]); rw [ez] at e0; exact ⟨al, cap, ⟨e0, hat 1 (by decide)⟩, hre⟩
        obtain ⟨b, off, spot⟩ := a'; obtain ⟨_, _, ⟨e0, _⟩, _⟩ := cell 0 hpos; (have hspot : spot = none := by simpa [Addr.add] using World.cell?_spot e0); subst hspot
        have hlt : b < W.heap.size := by
          rw [Go.WideShapes.add_plain] at e0; exact box_lt e0
        refine .inr ⟨b, off, rfl, hlt, fun i hi => ?_⟩; obtain ⟨al, cap, ⟨e0, e1⟩, h1, h2, h3⟩ := cell i hi; rw [Go.WideShapes.add_plain] at e0 e1; rw [Go.WideShapes.add_plain] at e1; exact ⟨e0, al, cap, e1, h1, h2, h3⟩
    · intro q hq; obtain ⟨i, hi, rfl⟩ := List.getElem_of_mem hq; obtain ⟨⟨hi', hs⟩, _⟩ := hP i hi; have h1 := bulk_mem (List.mem_map.2 ⟨elems[i], List.getElem_mem hi', rfl⟩ : elems[i].1 ∈ elems.map (·.1)); simp only [Rows.uptoBulk]; omega
end
end Go.Proofs.YthgghaaddankoaaGreatDoor
