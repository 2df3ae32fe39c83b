/- A whole row of expressions appended to a row of the call's own, whether nil or not. -/
import Derived.Test.YthkkeamjigmfhaaRowV
import Derived.Laws.OwnMore
namespace Go.Proofs.Ythkkeamjigmfhaa
open Go.RowKit
theorem run_append_none {P : Program} {w : World} (base : Nat) (t ty e : TypeId) (i : TypeInfo) (size c : Nat) (ht : P.underlying t = some (.slice e)) (hi : P.info? e = some i)
    (v : Value) (n : Nat) (xs : List Value) (hown : w.ownsRow base e size v n xs) :
    (Builtin.append_ #[t, t] ty #[v, .slice none 0 c]).run P w = .ok v w := by
  rcases hown.2 with ⟨rfl, rfl⟩ | ⟨g, cap, cur, rfl, _, _, hnc, _⟩
  · simp [Builtin.append_, run_underlying ht, sizeOf, typeInfo, hi, Builtin.lenOf, Builtin.firstCells]
  · simp [Builtin.append_, run_underlying ht, sizeOf, typeInfo, hi, Builtin.lenOf, Builtin.firstCells, hnc, storeCells]
/-- The values of a row that was handed in. -/
theorem row_vals {ok : Nat → Prop} {w : World} {al : Option Addr} {l : List Rx} (h : RowAt ok w al l) : ∃ ys, RowVals ok w ys l ∧ (∀ u ∈ ys, u.oneCell' = true) ∧ ((∃ ad : Addr, al = some ad ∧ ∀ j u, ys[j]? = some u → w.cell? (ad.add j) = some u) ∨ (al = none ∧ l = [])) := by
  rcases h with rfl | ⟨b, off, rfl, _, _, h⟩
  · refine ⟨[], RowVals.nil _ _, (by simp), ?_⟩
    cases al with
    | none => exact .inr ⟨rfl, rfl⟩
    | some ad => exact .inl ⟨ad, rfl, fun j u h => by simp at h⟩
  · obtain ⟨ys, h1, h2, h3⟩ := nodes_vals l off h
    exact ⟨ys, h1, h3, .inl ⟨_, rfl, fun j u hj => by rw [Go.WideShapes.add_plain]; exact h2 j u hj⟩⟩
theorem wpList_append_row {ok : Nat → Prop} {W : World} {ops : Array Oper} {rest : List Oper} {o : Oper} {a : Act} {Q : Exit → Act → World → Prop} (hgd : o.guard = none) (s x : Operand)
    (ho : o.op = .call { callee := .builtin .append, args := #[s, x], argTypes := #[25, 25] })
    (base : Nat) (v : Value) (hs : a.eval s = v) (hown : W.ownsRow base 27 6 v 0 [])
    (al : Option Addr) (l : List Rx) (c : Nat) (hx : a.eval x = .slice al l.length c) (hl : l.length ≤ 1000000) (hR : RowAt ok W al l) (hbase : base ≤ W.heap.size)
    (h : ∀ v' W' ys, W'.ownsRow base 27 6 v' l.length ys → RowVals ok W ys l → W.grownBy W' v.ownBlock → wpList Try.prog ops Q rest (a.put o.dst v') W') : wpList Try.prog ops Q (o :: rest) a W := by
  obtain ⟨i0, hi, hz0, hz1, hz2⟩ := info_parts infoR
  obtain ⟨ys, h1, h2, ⟨ad, rfl, h3⟩ | ⟨rfl, rfl⟩⟩ := row_vals hR
  · refine wpList_append_own W hgd s x 25 ho base 27 i0 _ 6 64 Try.underlying25 hi hz0 hz1 hz2 rfl (by decide) v 0 [] hs hown ad l.length c ys hx h1.1 h3 h2 (by unfold maxLen; omega) (by omega) hbase ?_
    intro v' W' g1 g2 _
    exact h v' W' ys (by simpa using g1) h1 g2
  · refine wpList_plain hgd fun K hK => ?_
    have hr := run_append_none (P := Try.prog) base 25 o.type 27 i0 6 c Try.underlying25 hi v 0 [] hown
    unfold Oper.wp execOp
    simp only [ho, resolve, invoke, builtin, Sem.run_bind, Sem.run_pure, Result.andThen_ok, List.map_toArray, List.map_cons, List.map_nil, hs, hx, List.length_nil, hr]
    have : ys = [] := List.eq_nil_of_length_eq_zero (by simpa using h1.1)
    subst this
    exact hK _ _ (h v W [] hown (RowVals.nil _ _) ⟨rfl, rfl, rfl, Nat.le_refl _, fun _ _ _ => rfl⟩)
end Go.Proofs.Ythkkeamjigmfhaa
