/- Lemmas of mine, merged: NormB, RdrG. -/
import Derived.Test.YtfmdcnfniimkoaaGreatRexEAll
import Derived.Test.YtfmdcnfniimkoaaGreatRexBAll
import Derived.BigRegion
/- quillref08's flat. Made by wip/r8-b.py. -/
namespace Go.Proofs.YtfmdcnfniimkoaaGreat
open Go.RowKit
/-- A whole row of expressions appended to a row of the call's own. -/
theorem wpList_append_rows {ok : Nat → Prop} {W : World} {ops : Array Oper} {rest : List Oper} {o : Oper} {a : Act} {Q : Exit → Act → World → Prop} (hgd : o.guard = none) (s x : Operand)
    (ho : o.op = .call { callee := .builtin .append, args := #[s, x], argTypes := #[25, 25] })
    (base : Nat) (v : Value) (n : Nat) (xs : List Value) (hs : a.eval s = v) (hown : W.ownsRow base 27 6 v n xs)
    (al : Option Addr) (l : List Rx) (c : Nat) (hx : a.eval x = .slice al l.length c) (hl : n + l.length ≤ 1000000) (hR : RowAt ok W al l) (hbase : base ≤ W.heap.size)
    (h : ∀ v' W' ys, W'.ownsRow base 27 6 v' (n + l.length) (xs ++ ys) → RowVals ok W ys l → W.grownBy W' v.ownBlock → wpList Tryz.prog ops Q rest (a.put o.dst v') W') : wpList Tryz.prog ops Q (o :: rest) a W := by
  obtain ⟨i0, hi, hz0, hz1, hz2⟩ := info_parts infoR
  obtain ⟨ys, h1, h2, ⟨ad, rfl, h3⟩ | ⟨rfl, rfl⟩⟩ := row_vals hR
  · refine wpList_append_own W hgd s x 25 ho base 27 i0 _ 6 64 Tryz.underlying25 hi hz0 hz1 hz2 rfl (by decide) v n xs hs hown ad l.length c ys hx h1.1 h3 h2 (by unfold maxLen; omega) (by omega) hbase ?_
    intro v' W' g1 g2 _
    exact h v' W' ys g1 h1 g2
  · refine wpList_plain hgd fun K hK => ?_
    have hr := run_append_none (P := Tryz.prog) base 25 o.type 27 i0 6 c Tryz.underlying25 hi v n xs hown
    unfold Oper.wp execOp
    simp only [ho, resolve, invoke, builtin, Sem.run_bind, Sem.run_pure, Result.andThen_ok, List.map_toArray, List.map_cons, List.map_nil, hs, hx, List.length_nil, hr]
    have : ys = [] := List.eq_nil_of_length_eq_zero (by simpa using h1.1)
    subst this
    exact hK _ _ (h v W [] (by simpa using hown) (RowVals.nil _ _) ⟨rfl, rfl, rfl, Nat.le_refl _, fun _ _ _ => rfl⟩)
theorem RowVals.cells1 {ok : Nat → Prop} {w : World} {xs : List Value} {l : List Rx} (h : RowVals ok w xs l) : ∀ u ∈ xs, u.oneCell' = true := by
  intro u hu
  obtain ⟨k, hk, rfl⟩ := List.getElem_of_mem hu
  have hk' : k < l.length * 6 := by rw [← h.1]; exact hk
  obtain ⟨c0, c1, c2, c3, c4, c5, ⟨e0, e1, e2, e3, e4, e5⟩, hr⟩ := h.2 (k / 6) (by omega)
  obtain ⟨a0, a1, a2, a3, a4, al, an, ac, hagg⟩ := cells_re hr
  simp at hagg
  obtain ⟨rfl, rfl, rfl, rfl, rfl, rfl⟩ := hagg
  have hm : k = k / 6 * 6 ∨ k = k / 6 * 6 + 1 ∨ k = k / 6 * 6 + 2 ∨ k = k / 6 * 6 + 3 ∨ k = k / 6 * 6 + 4 ∨ k = k / 6 * 6 + 5 := by omega
  have hg := List.getElem?_eq_getElem hk
  rcases hm with hm | hm | hm | hm | hm | hm
  · rw [← hm, hg] at e0; injection e0 with e0; rw [e0]; rfl
  · rw [← hm, hg] at e1; injection e1 with e1; rw [e1]; rfl
  · rw [← hm, hg] at e2; injection e2 with e2; rw [e2]; rfl
  · rw [← hm, hg] at e3; injection e3 with e3; rw [e3]; rfl
  · rw [← hm, hg] at e4; injection e4 with e4; rw [e4]; rfl
  · rw [← hm, hg] at e5; injection e5 with e5; rw [e5]; rfl
/-- A row of one's own appended to another one. -/
theorem wpList_append_owns {W : World} {ops : Array Oper} {rest : List Oper} {o : Oper} {a : Act} {Q : Exit → Act → World → Prop} (hgd : o.guard = none) (s x : Operand)
    (ho : o.op = .call { callee := .builtin .append, args := #[s, x], argTypes := #[25, 25] })
    (base : Nat) (v : Value) (n : Nat) (xs : List Value) (hs : a.eval s = v) (hown : W.ownsRow base 27 6 v n xs)
    (base2 : Nat) (v2 : Value) (m : Nat) (ys : List Value) (hx : a.eval x = v2) (hown2 : W.ownsRow base2 27 6 v2 m ys) (hys : ∀ u ∈ ys, u.oneCell' = true) (hl : n + m ≤ 1000000) (hbase : base ≤ W.heap.size)
    (h : ∀ v' W', W'.ownsRow base 27 6 v' (n + m) (xs ++ ys) → W.grownBy W' v.ownBlock → wpList Tryz.prog ops Q rest (a.put o.dst v') W') : wpList Tryz.prog ops Q (o :: rest) a W := by
  obtain ⟨i0, hi, hz0, hz1, hz2⟩ := info_parts infoR
  obtain ⟨hlen, ⟨rfl, rfl⟩ | ⟨g, cap, cur, rfl, hB, hg, hn, hm, hsz, ht⟩⟩ := hown2
  · have : ys = [] := List.eq_nil_of_length_eq_zero (by simpa using hlen)
    subst this
    refine wpList_plain hgd fun K hK => ?_
    have hr := run_append_none (P := Tryz.prog) base 25 o.type 27 i0 6 0 Tryz.underlying25 hi v n xs hown
    unfold Oper.wp execOp
    simp only [ho, resolve, invoke, builtin, Sem.run_bind, Sem.run_pure, Result.andThen_ok, List.map_toArray, List.map_cons, List.map_nil, hs, hx, hr]
    exact hK _ _ (h v W (by simpa using hown) ⟨rfl, rfl, rfl, Nat.le_refl _, fun _ _ _ => rfl⟩)
  · refine wpList_append_own W hgd s x 25 ho base 27 i0 _ 6 64 Tryz.underlying25 hi hz0 hz1 hz2 rfl (by decide) v n xs hs hown ⟨g, 0, none⟩ m cap ys hx (by rw [hlen]) ?_ hys (by unfold maxLen; omega) (by omega) hbase ?_
    · intro j u hj
      have hj' : j < m * 6 := by
        have := (List.getElem?_eq_some_iff.1 hj).1
        omega
      rw [Go.WideShapes.add_plain]
      rw [← ht, List.getElem?_take, if_pos hj'] at hj
      show W.cell? ⟨g, 0 + j, none⟩ = some u
      rw [Nat.zero_add, Lib.cell_of_heap hg, ← Array.getElem?_toList]
      exact hj
    · intro v' W' g1 g2 _
      exact h v' W' g1 g2
theorem own_mono {w : World} {B B' : Nat} {v : Value} {n : Nat} {xs : List Value} (h : w.ownsRow B' 27 6 v n xs) (hB : B ≤ B') : w.ownsRow B 27 6 v n xs := by
  obtain ⟨h1, h2⟩ := h
  refine ⟨h1, ?_⟩
  rcases h2 with h2 | ⟨g, cap, cur, rfl, hg, hr⟩
  · exact .inl h2
  · exact .inr ⟨g, cap, cur, rfl, Nat.le_trans hB hg, hr⟩
/-- A row of the call's own, whose expressions' rows lie below B. -/
def OwnL (base B : Nat) (l : List Ex) (x : Value) (w : World) : Prop := B ≤ w.heap.size ∧ ∃ xs, w.ownsRow base 27 6 x l.length xs ∧ RowVals (Lo B) w xs (l.map Ex.rx)
theorem OwnL.below {base B : Nat} {l : List Ex} {x : Value} {w w' : World} (h : OwnL base B l x w) (hb : Below w.heap.size w w') : OwnL base B l x w' := by
  obtain ⟨hB, xs, h1, h2⟩ := h
  exact ⟨Nat.le_trans hB hb.size, xs, ownR_below h1 hb, h2.go (kept_lo hB (hb.mono hB))⟩
theorem OwnL.row {base B : Nat} {l : List Ex} {x : Value} {w : World} (h : OwnL base B l x w) : ∃ al cap, x = .slice al (l.map Ex.rx).length cap ∧ (l.map Ex.rx).length ≤ cap ∧ RowAt (okN (Lo B) base) w al (l.map Ex.rx) := by
  obtain ⟨_, xs, h1, h2⟩ := h
  exact row_of_own (by rw [List.length_map]; exact h1) h2
def SP.own (base B : Nat) (l : List Ex) : SP := ⟨OwnL base B l, fun _ _ _ h hb => h.below hb⟩
/-- Two rows of one's own, one behind the other. -/
theorem own_append {base B : Nat} {l m : List Ex} {v v' : Value} {n : Nat} {W W' : World} {xs ys : List Value} (hB : B ≤ base) (hbase : base ≤ W.heap.size) (hn : n = l.length) (h1 : RowVals (Lo B) W xs (l.map Ex.rx)) (h2 : RowVals (Lo B) W ys (m.map Ex.rx)) (hv : ∀ g, v.ownBlock = some g → base ≤ g) (hown : W'.ownsRow base 27 6 v' (n + (m.map Ex.rx).length) (xs ++ ys)) (hg : W.grownBy W' v.ownBlock) : OwnL base B (l ++ m) v' W' := by
  have hb : Below B W W' := (Below.refl B W).grown hg (Nat.le_trans hB hbase) (fun g h => Nat.le_trans hB (hv g h))
  refine ⟨Nat.le_trans (Nat.le_trans hB hbase) hb.size, xs ++ ys, ?_, ?_⟩
  · rw [List.length_append, ← hn]
    simpa using hown
  · rw [List.map_append]
    exact (h1.go (kept_lo (Nat.le_trans hB hbase) hb)).append (h2.go (kept_lo (Nat.le_trans hB hbase) hb))
def FlPost (B : Nat) (l : List Ex) (w : World) (x : Ending) (w' : World) : Prop := ∃ v, x = .returned v ∧ OwnL w.heap.size B l v w' ∧ Below w.heap.size w w'
theorem flat_plain {e : Ex} (h1 : e.isEmp = false) (h2 : e.isAlt = false) : flatE e = [e] := flat_item ⟨h1, h2⟩
theorem flatE_len : ∀ e : Ex, (flatE e).length ≤ e.size
  | .empty => by simp [flatE]
  | .eps => by simp [flatE, Ex.size]
  | .cls _ => by simp [flatE, Ex.size]
  | .seq a b => by simp [flatE, Ex.size]; omega
  | .star a => by simp [flatE, Ex.size]
  | .alt a b => by
    have h1 := flatE_len a
    have h2 := flatE_len b
    simp only [flatE, List.length_append, Ex.size]
    omega
/-- A block of one expression is a row of the call's own. -/
theorem own_one {w : World} {B g : Nat} {e : Ex} {c0 c1 c2 c3 c4 c5 : Value} (hB : B ≤ g) (hg : w.heap[g]? = some (.cells #[c0, c1, c2, c3, c4, c5] 27)) {B' : Nat} (hB' : B' ≤ w.heap.size) (h : ReAt (Lo B') w (.agg #[c0, c1, c2, c3, c4, c5]) e.rx) : OwnL B B' [e] (.slice (some ⟨g, 0, none⟩) 1 1) w :=
  ⟨hB', _, ⟨rfl, .inr ⟨g, 1, _, rfl, hB, hg, Nat.le_refl _, by decide, rfl, rfl⟩⟩, RowVals.one h⟩
theorem own_none {w : World} {B g : Nat} (hB : B ≤ g) (hg : w.heap[g]? = some (.cells #[] 27)) {B' : Nat} (hB' : B' ≤ w.heap.size) : OwnL B B' [] (.slice (some ⟨g, 0, none⟩) 0 0) w :=
  ⟨hB', [], ⟨rfl, .inr ⟨g, 0, #[], rfl, hB, hg, Nat.le_refl _, Nat.zero_le _, rfl, rfl⟩⟩, RowVals.nil _ _⟩
theorem own_le {base base' B : Nat} {l : List Ex} {x : Value} {w : World} (h : OwnL base' B l x w) (hb : base ≤ base') : OwnL base B l x w :=
  ⟨h.1, h.2.choose, own_mono h.2.choose_spec.1 hb, h.2.choose_spec.2⟩
set_option maxHeartbeats 8000000 in
set_option maxRecDepth 100000 in
theorem ref8flat (B : Nat) (N : Nat) : ∀ (a : Ex), a.size ≤ N → a.size ≤ 1000000 → ∀ (v : Value) (w : World), B ≤ w.heap.size → ReAt (Lo B) w v a.rx →
    Calls Tryz.prog 63 #[v] w (FlPost B (flatE a) w) := by
  induction N with
  | zero => intro a hN; have := a.size_pos; omega
  | succ N ih =>
    intro a hN hbig v w hB h
    obtain ⟨ka, ⟨sa, sb, sc, sd⟩, ksa, hsa⟩ := rx_form a
    have HA := Lib.hid h
    rw [hsa] at h
    obtain ⟨_, _, al, cap, rfl, hcap, _, hrow⟩ := h
    simp only at HA ⊢
    have k1a := kind_emp hsa
    have k5a := kind_alt hsa
    cases q1 : a.isEmp with
    | true =>
      rw [q1] at k1a
      rw [show flatE a = [] from by rw [isEmp_iff.1 q1]; rfl]
      clear q1 hrow ih hN hsa k5a HA hbig
      go_enter Tryz.func63, Tryz.ntmps63
      go_wp2
      go_ret
      exact ⟨_, rfl, own_none (by omega) (blk_at _ _ (by simp)) (by simp; omega), al2 w _ _⟩
    | false =>
    rw [q1] at k1a
    cases q2 : a.isAlt with
    | false =>
      rw [q2] at k5a
      rw [flat_plain q1 q2]
      clear q1 q2 hrow ih hN hsa hbig
      go_enter Tryz.func63, Tryz.ntmps63
      go_wp2
      go_ret
      exact ⟨_, rfl, own_one (by omega) (blk_at _ _ (by simp)) (by simp; omega) (HA.out.below (al2 w _ _)), al2 w _ _⟩
    | true =>
      rw [q2] at k5a
      cases a with
      | empty => cases q2
      | eps => cases q2
      | cls s => cases q2
      | seq c d => cases q2
      | star c => cases q2
      | alt c d =>
      show Calls _ _ _ w (FlPost B (flatE c ++ flatE d) w)
      simp only [Ex.rx] at hsa
      injection hsa with e1 e2 e3
      subst e1
      subst e3
      obtain ⟨bk, off, rfl, hlt, hn0⟩ := hrow.kid (i := 0) (by simp)
      simp only [List.getElem_cons_zero, Nat.zero_mul, Nat.add_zero] at hn0
      obtain ⟨bk', off', e', hlt', hn1⟩ := hrow.kid (i := 1) (by simp)
      simp at e'
      obtain ⟨rfl, rfl⟩ := e'
      simp only [List.getElem_cons_zero, List.getElem_cons_succ, Nat.one_mul] at hn1
      have hcap2 : 2 ≤ cap := by simpa using hcap
      obtain ⟨kc, ⟨ca, cb, cc, cd⟩, ksc, hsc⟩ := rx_form c
      obtain ⟨kd, ⟨da, db, dc, dd⟩, ksd, hsd⟩ := rx_form d
      rw [hsc] at hn0
      rw [hsd] at hn1
      obtain ⟨al0, cap0, ⟨i0, i1, i2, i3, i4, i5⟩, hrc⟩ := hn0.read
      obtain ⟨al1, cap1, ⟨j0, j1, j2, j3, j4, j5⟩, hrd⟩ := hn1.read
      simp only at i0 i1 i2 i3 i4 i5 j0 j1 j2 j3 j4 j5
      rw [← hsc] at hrc
      rw [← hsd] at hrd
      simp only [Ex.size] at hN hbig
      have ic := ih c (by omega) (by omega)
      have id' := ih d (by omega) (by omega)
      have KC0 := Lib.hid fun W (hb : Below w.heap.size w W) => ic _ W (Nat.le_trans hB hb.size) (hrc.below hb)
      have KD0 := Lib.hid fun W (hb : Below w.heap.size w W) => id' _ W (Nat.le_trans hB hb.size) (hrd.below hb)
      have I6 := Lib.hid (show w.cell? ⟨bk, off, none⟩ = some (.int .u8 kc) ∧ w.cell? ⟨bk, off + 1, none⟩ = some (.int .u64 ca) ∧ w.cell? ⟨bk, off + 2, none⟩ = some (.int .u64 cb) ∧ w.cell? ⟨bk, off + 3, none⟩ = some (.int .u64 cc) ∧ w.cell? ⟨bk, off + 4, none⟩ = some (.int .u64 cd) ∧ w.cell? ⟨bk, off + 5, none⟩ = some (.slice al0 ksc.length cap0) from ⟨i0, i1, i2, i3, i4, i5⟩)
      have J6 := Lib.hid (show w.cell? ⟨bk, off + 6, none⟩ = some (.int .u8 kd) ∧ w.cell? ⟨bk, off + 6 + 1, none⟩ = some (.int .u64 da) ∧ w.cell? ⟨bk, off + 6 + 2, none⟩ = some (.int .u64 db) ∧ w.cell? ⟨bk, off + 6 + 3, none⟩ = some (.int .u64 dc) ∧ w.cell? ⟨bk, off + 6 + 4, none⟩ = some (.int .u64 dd) ∧ w.cell? ⟨bk, off + 6 + 5, none⟩ = some (.slice al1 ksd.length cap1) from ⟨j0, j1, j2, j3, j4, j5⟩)
      have hlc := flatE_len c
      have hld := flatE_len d
      have hlen : [c.rx, d.rx].length = 2 := rfl
      rw [hlen, show (((5 : Nat) : Int)) = 5 from rfl]
      clear k1a k5a hlen i0 i1 i2 i3 i4 i5 j0 j1 j2 j3 j4 j5 q1 q2 hrow ih ic id' hN hsc hsd HA hn0 hn1 hrc hrd hcap e2
      have BX := Lib.hid (show (w.alloc (.cells #[.int .u8 5, .int .u64 sa, .int .u64 sb, .int .u64 sc, .int .u64 sd, .slice (some ⟨bk, off, none⟩) 2 cap] 27)).heap[w.heap.size]? = some (.cells #[.int .u8 5, .int .u64 sa, .int .u64 sb, .int .u64 sc, .int .u64 sd, .slice (some ⟨bk, off, none⟩) 2 cap] 27) ∧ Below w.heap.size w (w.alloc (.cells #[.int .u8 5, .int .u64 sa, .int .u64 sb, .int .u64 sc, .int .u64 sd, .slice (some ⟨bk, off, none⟩) 2 cap] 27)) from ⟨blk_new w _, (Below.refl _ w).alloc (Nat.le_refl _) _⟩)
      go_enter Tryz.func63, Tryz.ntmps63
      go_wp2_with fail
      obtain ⟨W, hW⟩ : ∃ x, x = w.alloc (.cells #[.int .u8 5, .int .u64 sa, .int .u64 sb, .int .u64 sc, .int .u64 sd, .slice (some ⟨bk, off, none⟩) 2 cap] 27) := ⟨_, rfl⟩
      rw [← hW] at BX ⊢
      clear hW
      have WB := Lib.hid fun x (hx : Below W.heap.size W x) => BX.out.2.trans (hx.mono BX.out.2.size)
      have WX := Lib.hid fun x (hx : Below W.heap.size W x) => (WB.out x hx).size
      have CX := Lib.hid fun x (hx : Below W.heap.size W x) => (cellsR ((hx.block _ (Array.getElem?_eq_some_iff.1 BX.out.1).1).trans BX.out.1)).2.2.2.2.2.1
      have CC := Lib.hid fun x (hx : Below W.heap.size W x) => six_keep hlt I6.out (WB.out x hx)
      have CD := Lib.hid fun x (hx : Below W.heap.size W x) => six_keep hlt J6.out (WB.out x hx)
      have KC := Lib.hid fun x (hx : Below W.heap.size W x) => KC0.out x (WB.out x hx)
      have KD := Lib.hid fun x (hx : Below W.heap.size W x) => KD0.out x (WB.out x hx)
      refine wp_region_orderT 10 (fun i => ([SP.eq (.pointer (some ⟨w.heap.size, 5, none⟩)), SP.eq (.slice (some ⟨bk, off, none⟩) 2 cap), SP.eq (.pointer (some ⟨bk, off, none⟩)), SP.eq (.agg #[.int .u8 kc, .int .u64 ca, .int .u64 cb, .int .u64 cc, .int .u64 cd, .slice al0 ksc.length cap0]), SP.own w.heap.size B (flatE c), SP.eq (.pointer (some ⟨w.heap.size, 5, none⟩)), SP.eq (.slice (some ⟨bk, off, none⟩) 2 cap), SP.eq (.pointer (some ⟨bk, off + 6, none⟩)), SP.eq (.agg #[.int .u8 kd, .int .u64 da, .int .u64 db, .int .u64 dc, .int .u64 dd, .slice al1 ksd.length cap1]), SP.own w.heap.size B (flatE d)] : List SP).getD i SP.free) (fun _ => false) (fun _ _ _ h => by cases h) (by kernel_rfl) (by kernel_rfl) ⟨?_, ?_, ?_, ?_, ?_, ?_, ?_, ?_, ?_, ?_, trivial⟩ ?_
      · intro a x K out get hb hK
        rw [if_pos (wanted_none rfl)]
        have o1 : a.tmps[1]? = some (.pointer (some ⟨w.heap.size, 0, none⟩)) := out 1 (by kernel_rfl)
        clear out get
        go_simp
        exact hK _ _ rfl (Below.refl _ _) (fun h => by cases h)
      · intro a x K out get hb hK
        rw [if_pos (wanted_none rfl)]
        obtain ⟨y10, hy10, rfl⟩ := get 0 _ _ rfl rfl (by kernel_rfl)
        clear out get
        have hk5 := CX.out x hb
        go_simp
        exact hK _ _ rfl (Below.refl _ _) (fun h => by cases h)
      · intro a x K out get hb hK
        rw [if_pos (wanted_none rfl)]
        obtain ⟨y11, hy11, rfl⟩ := get 1 _ _ rfl rfl (by kernel_rfl)
        clear out get
        go_simp
        exact hK _ _ rfl (Below.refl _ _) (fun h => by cases h)
      · intro a x K out get hb hK
        rw [if_pos (wanted_none rfl)]
        obtain ⟨y12, hy12, rfl⟩ := get 2 _ _ rfl rfl (by kernel_rfl)
        clear out get
        obtain ⟨c0, c1, c2, c3, c4, c5⟩ := CC.out x hb
        go_simp
        exact hK _ _ rfl (Below.refl _ _) (fun h => by cases h)
      · intro a x K out get hb hK
        rw [if_pos (wanted_none rfl)]
        obtain ⟨y13, hy13, rfl⟩ := get 3 _ _ rfl rfl (by kernel_rfl)
        clear out get
        go_simp
        refine (KC.out x hb).mono ?_
        rintro e w2 ⟨v2, rfl, hv2, hb2⟩
        exact hK _ _ (own_le hv2 (WX.out x hb)) hb2 (fun h => by cases h)
      · intro a x K out get hb hK
        rw [if_pos (wanted_none rfl)]
        have o1 : a.tmps[1]? = some (.pointer (some ⟨w.heap.size, 0, none⟩)) := out 1 (by kernel_rfl)
        clear out get
        go_simp
        exact hK _ _ rfl (Below.refl _ _) (fun h => by cases h)
      · intro a x K out get hb hK
        rw [if_pos (wanted_none rfl)]
        obtain ⟨y15, hy15, rfl⟩ := get 5 _ _ rfl rfl (by kernel_rfl)
        clear out get
        have hk5 := CX.out x hb
        go_simp
        exact hK _ _ rfl (Below.refl _ _) (fun h => by cases h)
      · intro a x K out get hb hK
        rw [if_pos (wanted_none rfl)]
        obtain ⟨y16, hy16, rfl⟩ := get 6 _ _ rfl rfl (by kernel_rfl)
        clear out get
        go_simp
        exact hK _ _ rfl (Below.refl _ _) (fun h => by cases h)
      · intro a x K out get hb hK
        rw [if_pos (wanted_none rfl)]
        obtain ⟨y17, hy17, rfl⟩ := get 7 _ _ rfl rfl (by kernel_rfl)
        clear out get
        obtain ⟨c0, c1, c2, c3, c4, c5⟩ := CD.out x hb
        go_simp
        exact hK _ _ rfl (Below.refl _ _) (fun h => by cases h)
      · intro a x K out get hb hK
        rw [if_pos (wanted_none rfl)]
        obtain ⟨y18, hy18, rfl⟩ := get 8 _ _ rfl rfl (by kernel_rfl)
        clear out get
        go_simp
        refine (KD.out x hb).mono ?_
        rintro e w2 ⟨v2, rfl, hv2, hb2⟩
        exact hK _ _ (own_le hv2 (WX.out x hb)) hb2 (fun h => by cases h)
      refine ao_finT (isD := fun s => (decide (10 ≤ s) && decide (s ≤ 20)) || decide (s = 2)) (by kernel_rfl) ?_
      intro f x hv hne hb
      clear hne
      obtain ⟨_, xs, o14, v14⟩ : OwnL w.heap.size B (flatE c) (f 14) x := hv 4 _ _ (by decide) rfl rfl
      obtain ⟨_, ys, o19, v19⟩ : OwnL w.heap.size B (flatE d) (f 19) x := hv 9 _ _ (by decide) rfl rfl
      have hxw := Lib.hid (WB.out x hb)
      have V14 := Lib.hid v14
      have V19 := Lib.hid v19
      have O14 := Lib.hid o14
      have O19 := Lib.hid o19
      clear hv hb v14 v19 o14 o19
      simp only [frm, List.drop_succ_cons, List.drop_zero]
      simp
      generalize f 14 = v1 at *
      generalize f 19 = v2 at *
      generalize f 2 = u2 at *
      generalize f 10 = u10 at *
      generalize f 11 = u11 at *
      generalize f 12 = u12 at *
      generalize f 13 = u13 at *
      generalize f 15 = u15 at *
      generalize f 16 = u16 at *
      generalize f 17 = u17 at *
      generalize f 18 = u18 at *
      generalize f 20 = u20 at *
      clear f
      refine wpList_append_owns rfl _ _ rfl w.heap.size v1 (flatE c).length xs rfl O14.out w.heap.size v2 (flatE d).length ys rfl O19.out V19.out.cells1 (by omega) hxw.out.size ?_
      intro v' W' g1 g2
      have hge := ownR_ge O14.out
      have hO := Lib.hid (own_append (l := flatE c) (m := flatE d) hB hxw.out.size rfl V14.out V19.out hge (by rw [List.length_map]; exact g1) g2)
      have hbb := Lib.hid (hxw.out.grown g2 hxw.out.size hge)
      clear g1 g2 hge
      go_wp2
      go_ret
      exact ⟨_, rfl, hO.out, hbb.out⟩
end Go.Proofs.YtfmdcnfniimkoaaGreat
/- The landed reader's chain. -/
namespace Go.Proofs.YtfmdcnfniimkoaaGreat
open Go.RowKit
/-- Blocks that were allowed, and new ones but two. -/
def OwnO (ok : Nat → Prop) (n g b : Nat) : Prop := (ok b ∧ b < n) ∨ (n + 1 ≤ b ∧ b ≠ g)
def rchInv (ok : Nat → Prop) (k o : Nat) (l : List Rx) (w : World) (g : Nat) (y : Value) (wr : World) : Prop := ∃ (j : Nat) (v : Value) (x0 x1 x2 x3 x4 : Int) (al : Option Addr) (n cap : Nat), j < l.length ∧ y = .int .i64 ((j : Int) - 1) ∧
  v = .agg #[.int .u8 x0, .int .u64 x1, .int .u64 x2, .int .u64 x3, .int .u64 x4, .slice al n cap] ∧
  wr.heap[g]? = some (.cells #[.int .u8 x0, .int .u64 x1, .int .u64 x2, .int .u64 x3, .int .u64 x4, .slice al n cap] 27) ∧ wr.heap[w.heap.size]? = some nilBlk ∧
  ReAt (OwnO ok w.heap.size g) wr v (foldR k o (l.drop j)) ∧ Below w.heap.size w wr
theorem rch_step {ok : Nat → Prop} {n0 g k : Nat} {w wr : World} {z0 z1 z2 z3 z4 z5 y0 y1 y2 y3 y4 y5 : Value} {r t : Rx} (hk : k < 256) (hn0 : n0 + 1 ≤ g)
    (hG : wr.heap[g]? = some (.cells #[y0, y1, y2, y3, y4, y5] 27)) (hN : wr.heap[n0]? = some nilBlk) (hv : ReAt (OwnO ok n0 g) wr (.agg #[y0, y1, y2, y3, y4, y5]) t)
    (hv2 : ReAt (OwnO ok n0 g) wr (.agg #[z0, z1, z2, z3, z4, z5]) r) (hb : Below n0 w wr) :
    (chainW wr g k z0 z1 z2 z3 z4 z5 y0 y1 y2 y3 y4 y5).heap[g]? = some (.cells #[.int .u8 k, .int .u64 0, .int .u64 0, .int .u64 0, .int .u64 0, .slice (some ⟨wr.heap.size, 0, none⟩) 2 2] 27) ∧
    (chainW wr g k z0 z1 z2 z3 z4 z5 y0 y1 y2 y3 y4 y5).heap[n0]? = some nilBlk ∧
    ReAt (OwnO ok n0 g) (chainW wr g k z0 z1 z2 z3 z4 z5 y0 y1 y2 y3 y4 y5) (.agg #[.int .u8 k, .int .u64 0, .int .u64 0, .int .u64 0, .int .u64 0, .slice (some ⟨wr.heap.size, 0, none⟩) 2 2]) (.node k Ws.nil [r, t]) ∧
    Below n0 w (chainW wr g k z0 z1 z2 z3 z4 z5 y0 y1 y2 y3 y4 y5) := by
  have hg : g < wr.heap.size := (Array.getElem?_eq_some_iff.1 hG).1
  have hsz := putW_size wr g (.int .u8 k) (.int .u64 0) (.int .u64 0) (.int .u64 0) (.int .u64 0) (.slice (some ⟨wr.heap.size, 0, none⟩) 2 2)
  have hold : ∀ b, b < wr.heap.size → b ≠ g → (chainW wr g k z0 z1 z2 z3 z4 z5 y0 y1 y2 y3 y4 y5).heap[b]? = wr.heap[b]? := fun b h1 h2 =>
    (Below.heap_alloc _ _ _ (by rw [hsz]; exact h1)).trans (putW_other _ _ _ _ _ _ _ _ h2)
  have hsize : wr.heap.size ≤ (chainW wr g k z0 z1 z2 z3 z4 z5 y0 y1 y2 y3 y4 y5).heap.size := by
    unfold chainW; rw [World.size_alloc, hsz]; omega
  have hkept : Kept (OwnO ok n0 g) (OwnO ok n0 g) wr (chainW wr g k z0 z1 z2 z3 z4 z5 y0 y1 y2 y3 y4 y5) := ⟨hsize, fun b h1 h2 => ⟨h2, hold b h1 (by
    rcases h2 with h2 | h2
    · omega
    · exact h2.2)⟩⟩
  refine ⟨(Below.heap_alloc _ _ _ (by rw [hsz]; omega)).trans (putR hG _ _ _ _ _ _), (hold n0 (by omega) (by omega)).trans hN, ?_, ?_⟩
  · exact ⟨hk, Ws.nil_ok, _, _, rfl, Nat.le_refl _, by simp, row_two (blk_at _ _ hsz.symm) (.inr (by omega)) (hv2.go hkept) (hv.go hkept)⟩
  · exact (putB hb (by omega : n0 ≤ g) _ _ _ _ _ _).alloc (by rw [hsz]; omega) _
theorem drew_hp (w : World) : w.drew.heap = w.heap := rfl
theorem rch_stepD {ok : Nat → Prop} {n0 g k : Nat} {w wr : World} {z0 z1 z2 z3 z4 z5 y0 y1 y2 y3 y4 y5 : Value} {r t : Rx} (hk : k < 256) (hn0 : n0 + 1 ≤ g)
    (hG : wr.heap[g]? = some (.cells #[y0, y1, y2, y3, y4, y5] 27)) (hN : wr.heap[n0]? = some nilBlk) (hv : ReAt (OwnO ok n0 g) wr (.agg #[y0, y1, y2, y3, y4, y5]) t)
    (hv2 : ReAt (OwnO ok n0 g) wr (.agg #[z0, z1, z2, z3, z4, z5]) r) (hb : Below n0 w wr) :
    (chainW wr g k z0 z1 z2 z3 z4 z5 y0 y1 y2 y3 y4 y5).drew.heap[g]? = some (.cells #[.int .u8 k, .int .u64 0, .int .u64 0, .int .u64 0, .int .u64 0, .slice (some ⟨wr.heap.size, 0, none⟩) 2 2] 27) ∧
    (chainW wr g k z0 z1 z2 z3 z4 z5 y0 y1 y2 y3 y4 y5).drew.heap[n0]? = some nilBlk ∧
    ReAt (OwnO ok n0 g) (chainW wr g k z0 z1 z2 z3 z4 z5 y0 y1 y2 y3 y4 y5).drew (.agg #[.int .u8 k, .int .u64 0, .int .u64 0, .int .u64 0, .int .u64 0, .slice (some ⟨wr.heap.size, 0, none⟩) 2 2]) (.node k Ws.nil [r, t]) ∧
    Below n0 w (chainW wr g k z0 z1 z2 z3 z4 z5 y0 y1 y2 y3 y4 y5).drew := by
  obtain ⟨s1, s2, s3, s4⟩ := rch_step hk hn0 hG hN hv hv2 hb
  exact ⟨by rw [drew_hp]; exact s1, by rw [drew_hp]; exact s2, s3.below (Below.refl _ _).drew, s4.drew⟩
theorem box_box {w : World} {o : Obj} : (w.alloc nilBlk |>.alloc o).heap[w.heap.size]? = some nilBlk := (Below.heap_alloc _ _ _ (by simp)).trans (blk_new w _)
/-- Nodes in a row, whatever block it lies in. -/
def RowN (ok : Nat → Prop) (w : World) (al : Option Addr) (l : List Rx) : Prop := ∃ b off, al = some ⟨b, off, none⟩ ∧ b < w.heap.size ∧ NodesAt ok w b off l
theorem RowN.kid {ok : Nat → Prop} {w : World} {al : Option Addr} {ks : List Rx} (h : RowN ok w al ks) {i : Nat} (hi : i < ks.length) : ∃ b off, al = some ⟨b, off, none⟩ ∧ b < w.heap.size ∧ NodeAt ok w b (off + i * 6) ks[i] := by
  obtain ⟨b, off, e, hlt, h⟩ := h
  exact ⟨b, off, e, hlt, nodesAt_get h i hi⟩
theorem RowN.below {ok : Nat → Prop} {w w' : World} {al : Option Addr} {ks : List Rx} (h : RowN ok w al ks) (hb : Below w.heap.size w w') : RowN ok w' al ks := by
  obtain ⟨b, off, e, hlt, h⟩ := h
  exact ⟨b, off, e, Nat.lt_of_lt_of_le hlt hb.size, NodesAt.below hb ks hlt h⟩
theorem fold_foldE (k o : Nat) (f : Ex → Ex → Ex) (hf : ∀ a b, (f a b).rx = .node k Ws.nil [a.rx, b.rx]) : ∀ l : List Ex, l ≠ [] → foldR k o (l.map Ex.rx) = (foldE f l).rx
  | [], h => absurd rfl h
  | [e], _ => rfl
  | e :: e' :: l, _ => by
    have := fold_foldE k o f hf (e' :: l) (by simp)
    show Rx.node k Ws.nil [e.rx, foldR k o ((e' :: l).map Ex.rx)] = _
    rw [this]
    exact (hf _ _).symm
set_option maxHeartbeats 4000000 in
theorem rchain_any {ok : Nat → Prop} (k o : Nat) (l : List Rx) (al : Option Addr) (cap : Nat) (w : World) (hk : k < 256) (hlen : l.length < 2199023255552) (hl : l ≠ []) (h : RowN ok w al l) :
    Calls Tryz.prog 106 #[.int .u8 k, .slice al l.length cap] w (RePost (fun b => ok b ∧ b < w.heap.size) (foldR k o l) w) := by
  have HR := Lib.hid h
  clear h
  have hpos : 0 < l.length := List.length_pos_iff.2 hl
  obtain ⟨b, off, hab, hblt, hnode⟩ := HR.out.kid (i := l.length - 1) (by omega)
  subst hab
  have hb0 := (Below.refl _ w).alloc (Nat.le_refl _) nilBlk
  have hkid := NodeAt.below hb0 _ hblt hnode
  have hdrop : l.drop (l.length - 1) = [l[l.length - 1]'(by omega)] := by
    rw [List.drop_eq_getElem_cons (by omega), List.drop_of_length_le (by omega)]
  have HD := Lib.hid hdrop
  clear hdrop hl
  generalize l[l.length - 1]'(by omega) = kid at *
  obtain ⟨k', ⟨ta, tb, tc, td⟩, ks'⟩ := kid
  obtain ⟨al', cap', ⟨c0, c1, c2, c3, c4, c5⟩, -⟩ := hkid.read
  obtain ⟨al'', cap'', ⟨c0', c1', c2', c3', c4', c5'⟩, hre⟩ := hnode.read
  have e5 := (World.cell?_of_block (w := w) (a := ⟨b, off + (l.length - 1) * 6 + 5, none⟩) (hb0.block b hblt)).symm.trans c5
  rw [c5'] at e5
  simp at e5
  obtain ⟨rfl, rfl⟩ := e5
  simp only at c0 c1 c2 c3 c4 c5
  unfold nilBlk at c0 c1 c2 c3 c4 c5
  have HRE := Lib.hid hre
  clear hkid hnode hre c0' c1' c2' c3' c4' c5'
  have q1 : (l.length : Int) - 1 = ((l.length - 1 : Nat) : Int) := by omega
  have q2 : ((l.length - 1 : Nat) : Int) < (l.length : Int) := by omega
  go_enter Tryz.func106, Tryz.ntmps106
  go_wp2
  go_loopw [7] (fun y wr => rchInv ok k o l w (w.heap.size + 1) y wr) (fun y _ => (intOf y + 1).toNat)
  case atStart =>
    refine ⟨l.length - 1, _, _, _, _, _, _, _, _, _, by omega, ?_, rfl, blk_at _ _ (by simp), box_box, ?_, hb0.alloc (by simp) _⟩
    · first | rfl | (congr 1; omega)
    · rw [HD.out]
      exact HRE.out.go ⟨by simp; omega, fun b hb h => ⟨.inl ⟨h, hb⟩, (Below.heap_alloc _ _ _ (by simp; omega)).trans (Below.heap_alloc _ _ _ hb)⟩⟩
  case round =>
    obtain ⟨j, v, y0, y1, y2, y3, y4, yl, yn, yc, hj, rfl, rfl, hg, hn, hv, hb⟩ := hrel
    have HG := Lib.hid hg
    have HN := Lib.hid hn
    have HV' := Lib.hid hv
    clear hg hn hv HD HRE c0 c1 c2 c3 c4 c5
    have hgs := (Array.getElem?_eq_some_iff.1 HG.out).1
    by_cases hj0 : j = 0
    · subst hj0
      obtain ⟨d0, e1, e2, e3, e4, e5, f0, f1, f2, f3, f4, f5⟩ := cellsR HG.out
      obtain ⟨g0, g1, g2, g3, g4, g5, p0, p1, p2, p3, p4, p5⟩ := cellsR HN.out
      have hp := putR HN.out (.int .u8 y0) (.int .u64 y1) (.int .u64 y2) (.int .u64 y3) (.int .u64 y4) (.slice yl yn yc)
      have hbb := putB hb (Nat.le_refl w.heap.size) (.int .u8 y0) (.int .u64 y1) (.int .u64 y2) (.int .u64 y3) (.int .u64 y4) (.slice yl yn yc)
      have hre : ReAt (fun b => (ok b ∧ b < w.heap.size) ∨ w.heap.size ≤ b) (putW wr w.heap.size (.int .u8 y0) (.int .u64 y1) (.int .u64 y2) (.int .u64 y3) (.int .u64 y4) (.slice yl yn yc)) (.agg #[.int .u8 y0, .int .u64 y1, .int .u64 y2, .int .u64 y3, .int .u64 y4, .slice yl yn yc]) (foldR k o l) := by
        have h := HV'.out
        rw [List.drop_zero] at h
        refine h.go ⟨by rw [putW_size]; exact Nat.le_refl _, fun b _ hb => ?_⟩
        rcases hb with hb | hb
        · exact ⟨.inl hb, putW_other _ _ _ _ _ _ _ _ (by omega)⟩
        · exact ⟨.inr (by omega), putW_other _ _ _ _ _ _ _ _ (by omega)⟩
      unfold putW at hp hbb hre
      have HP := Lib.hid hp
      have HBB := Lib.hid hbb
      have HRE := Lib.hid hre
      clear hp hbb hre
      go_wp2
      exact ret_re HP.out Tryz.results106 rfl rfl ⟨_, rfl, HRE.out, HBB.out⟩
    · have d1 : decide (0 ≤ (j : Int) - 1) = true := by simp; omega
      obtain ⟨b2, off2, hab2, hblt2, hnode2⟩ := HR.out.kid (i := j - 1) (by omega)
      simp at hab2
      obtain ⟨rfl, rfl⟩ := hab2
      have hkid2 := NodeAt.go (ok := ok) (ok' := OwnO ok w.heap.size (w.heap.size + 1)) ⟨hb.size, fun b hb' h => ⟨.inl ⟨h, hb'⟩, hb.block b hb'⟩⟩ _ (hb.block _ hblt2) hnode2
      have hdrop : l.drop (j - 1) = l[j - 1]'(by omega) :: l.drop j := by
        rw [List.drop_eq_getElem_cons (by omega)]; congr 2; omega
      have hne : l.drop j ≠ [] := by simp; omega
      have hfo := foldR_cons k o (l[j - 1]'(by omega)) hne
      rw [← hdrop] at hfo
      have HFO := Lib.hid hfo
      clear hdrop hne hfo hnode2
      generalize l[j - 1]'(by omega) = kid2 at *
      obtain ⟨k2, ⟨sa, sb, sc, sd⟩, ks2⟩ := kid2
      obtain ⟨al2, cap2, ⟨c0, c1, c2, c3, c4, c5⟩, hre⟩ := hkid2.read
      simp only at c0 c1 c2 c3 c4 c5
      have HRE := Lib.hid hre
      clear hkid2 hre
      have r1 : (j : Int) - 1 = ((j - 1 : Nat) : Int) := by omega
      have r2 : ((j - 1 : Nat) : Int) < (l.length : Int) := by omega
      obtain ⟨d0, e1, e2, e3, e4, e5, f0, f1, f2, f3, f4, f5⟩ := cellsR HG.out
      go_wp2_with fail
      go_region
      obtain ⟨s1, s2, s3, s4⟩ := rch_stepD (k := k) hk (Nat.le_refl _) HG.out HN.out HV'.out HRE.out hb
      have HS1 := Lib.hid s1
      have HS2 := Lib.hid s2
      have HS3 := Lib.hid s3
      have HS4 := Lib.hid s4
      unfold chainW putW at HS1 HS2 HS3 HS4
      clear s1 s2 s3 s4
      go_wp2
      refine ⟨⟨j - 1, _, k, 0, 0, 0, 0, _, 2, 2, by omega, ?_, rfl, HS1.out, HS2.out, ?_, HS4.out⟩, ?_⟩
      · first | rfl | (congr 1; omega)
      · rw [HFO.out]; exact HS3.out
      · simp [intOf]; omega
end Go.Proofs.YtfmdcnfniimkoaaGreat
