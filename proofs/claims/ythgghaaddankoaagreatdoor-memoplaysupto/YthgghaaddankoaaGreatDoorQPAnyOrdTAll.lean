/- Lemmas of mine, merged: QPAnyOrdT, QPAnyOrdA, QPAnyOrdL. -/
import Derived.StillTail
import Derived.Test.YthgghaaddankoaaGreatDoorQPFstIAll
/- Lemmas of mine. -/
namespace Go.Proofs.YthgghaaddankoaaGreatDoor
open Go.RowKit
def aoTB (ops : Array Oper) (n m : Nat) : Bool :=
  decide (n < ops.size) && (List.range ops.size).all fun i => match ops[i]? with
    | some o => (o.after.all fun e => decide (e.on < i)) && (decide (n ≤ i) || (match o.dst with
      | some d => decide (d < m) && ((List.range n).all fun j => j == i || !(((ops[j]?).bind (·.dst)) == some d))
      | none => false))
    | none => true
def lst (m n : Nat) : Array Bool := Array.replicate n true ++ Array.replicate (m - n) false
section
variable {P : Program} {ops : Array Oper} {Q : Exit → Act → World → Prop} {φ : Nat → SP} {a0 : Act} {W : World} {n : Nat}
def AStepT (P : Program) (ops : Array Oper) (Q : Exit → Act → World → Prop) (φ : Nat → SP) (vr : Nat → Bool) (a0 : Act) (W : World) (i : Nat) (o : Oper) : Prop :=
  ∀ (a : Act) (w : World) (K : Act → World → Prop),
    (∀ s, outB ops s = true → a.tmps[s]? = a0.tmps[s]?) →
    (∀ j oj d, ops[j]? = some oj → oj.dst = some d → (o.after.any fun e => Region.binds .any e && e.on == j) = true → ∃ x, a.tmps[d]? = some x ∧ (φ j).p x w) →
    Below W.heap.size W w →
    (∀ x w', (φ i).p x w' → Below w.heap.size w w' → (vr i = true → x = .pointer (some ⟨w.heap.size, 0, none⟩)) → K (a.put o.dst x) w') →
    if Region.wanted o (yielded ops a.tmps) = true then Oper.wp P o a w K Q else K (a.put o.dst undef) w
def AStepsT (P : Program) (ops : Array Oper) (Q : Exit → Act → World → Prop) (φ : Nat → SP) (vr : Nat → Bool) (a0 : Act) (W : World) : Nat → List Oper → Prop
  | _, [] => True
  | i, o :: l => AStepT P ops Q φ vr a0 W i o ∧ AStepsT P ops Q φ vr a0 W (i + 1) l
theorem astepsT_get {vr : Nat → Bool} : ∀ (l : List Oper) (k : Nat), AStepsT P ops Q φ vr a0 W k l → ∀ j o, l[j]? = some o → AStepT P ops Q φ vr a0 W (k + j) o
  | [], _, _, j, o, h => by simp at h
  | x :: l, k, hs, 0, o, h => by
    simp at h; subst h; exact hs.1
  | x :: l, k, hs, j + 1, o, h => by
    simp at h; have := astepsT_get l (k + 1) hs.2 j o h; rw [show k + (j + 1) = k + 1 + j by omega]; exact this
structure AOT (ops : Array Oper) (φ : Nat → SP) (vr : Nat → Bool) (n : Nat) (a0 : Act) (W : World) (listed : Array Bool) (a : Act) (w : World) : Prop where
  head : HeadInv .any ops n listed
  len : a.tmps.size = a0.tmps.size
  defers : a.defers = a0.defers
  out : ∀ s, outB ops s = true → a.tmps[s]? = a0.tmps[s]?
  val : ∀ i o d, i < n → ops[i]? = some o → o.dst = some d → listed.getD i false = true → ∃ x, a.tmps[d]? = some x ∧ (φ i).p x w
  apart : ∀ i j oi oj di dj, i < n → j < n → i ≠ j → vr i = true → vr j = true → ops[i]? = some oi → ops[j]? = some oj → oi.dst = some di → oj.dst = some dj → listed.getD i false = true → listed.getD j false = true → a.tmps[di]? ≠ a.tmps[dj]?
  bel : Below W.heap.size W w
theorem aoTB_spec {m : Nat} (h : aoTB ops n m = true) {i : Nat} {o : Oper} (ho : ops[i]? = some o) : (∀ e ∈ o.after, e.on < i) ∧ (i < n → ∃ d, o.dst = some d ∧ d < m ∧ ∀ j oj, j < n → ops[j]? = some oj → oj.dst = some d → j = i) := by
  unfold aoTB at h; simp only [Bool.and_eq_true, decide_eq_true_eq] at h; have hi : i < ops.size := (Array.getElem?_eq_some_iff.1 ho).1; have h1 := List.all_eq_true.1 h.2 i (List.mem_range.2 hi); simp only [ho] at h1; simp only [Bool.and_eq_true, Bool.or_eq_true, decide_eq_true_eq] at h1; obtain ⟨h2, h3⟩ := h1
  refine ⟨fun e he => by
    have := Array.all_eq_true'.1 h2 e he
    simpa using this, fun hin => ?_⟩
  rcases h3 with h3 | h3
  · omega
  · cases hd : o.dst with
    | none => simp [hd] at h3
    | some d =>
      simp only [hd, Bool.and_eq_true, decide_eq_true_eq] at h3; refine ⟨d, rfl, h3.1, fun j oj hjn hj hjd => ?_⟩; have h4 := List.all_eq_true.1 h3.2 j (List.mem_range.2 hjn); simp only [hj, Option.bind_some, hjd, Bool.or_eq_true, beq_iff_eq] at h4
      rcases h4 with h4 | h4
      · exact h4
      · simp at h4
theorem lst_eq {listed : Array Bool} (hs : listed.size = ops.size) (hn : n < ops.size) (h1 : ∀ i, i < n → listed.getD i true = true) (h2 : ∀ t, n ≤ t → t < ops.size → listed.getD t true = false) : listed = lst ops.size n := by
  apply Array.ext_getElem?
  intro i; unfold lst; rw [Array.getElem?_append]; simp only [Array.size_replicate, Array.getElem?_replicate]
  rcases Nat.lt_or_ge i n with h | h
  · (have hi : i < listed.size := by omega); have h3 := h1 i h; simp [hi] at h3; rw [if_pos h, if_pos h, Array.getElem?_eq_getElem hi, h3]
  · rw [if_neg (by omega)]
    rcases Nat.lt_or_ge i ops.size with h' | h'
    · (have hi : i < listed.size := by omega); have h3 := h2 i h h'; simp [hi] at h3; rw [Array.getElem?_eq_getElem hi, h3, if_pos (by omega)]
    · rw [Array.getElem?_eq_none (by omega), if_neg (by omega)]
theorem least_ready {listed : Array Bool} (hsz : listed.size = ops.size) {m : Nat} (hB : aoTB ops n m = true) : ∀ (i : Nat), i < ops.size → listed.getD i true = false → ∃ j, j ≤ i ∧ j ∈ Region.ready .any ops listed := by
  intro i
  induction i using Nat.strongRecOn with
  | _ i ih =>
    intro hi hl; obtain ⟨o, ho⟩ : ∃ o, ops[i]? = some o := ⟨ops[i], Array.getElem?_eq_getElem hi⟩; have hb := (aoTB_spec hB ho).1
    by_cases hall : ∀ e ∈ o.after, Region.binds .any e = true → listed.getD e.on false = true
    · exact ⟨i, Nat.le_refl _, mem_ready.2 ⟨hl, o, ho, hall⟩⟩
    · have hex : ∃ e ∈ o.after, listed.getD e.on false = false := by
        apply Classical.byContradiction
        intro hne; refine hall fun e he _ => ?_
        cases hq : listed.getD e.on false with
        | true => rfl
        | false => exact absurd ⟨e, he, hq⟩ hne
      obtain ⟨e, he, hq⟩ := hex; have hlt := hb e he; obtain ⟨j, hj, hr⟩ := ih e.on hlt (by omega) (getD_in (by omega) hq); exact ⟨j, by omega, hr⟩
theorem ao_anyT {l : List Oper} {vr : Nat → Bool} (hvr : ∀ j y w, vr j = true → (φ j).p y w → ∃ g, y = .pointer (some ⟨g, 0, none⟩) ∧ g < w.heap.size) (hops : ops = l.toArray) (hB : aoTB ops n a0.tmps.size = true) (hsink : Region.sinkB .any ops n = true) (hchain : Region.chainB .any ops n = true) (hseq : Region.seqB .any ops (ops.size - n) n (lst ops.size n) = true) (hunl : unl (lst ops.size n) = ops.size - n)
    (hs : AStepsT P ops Q φ vr a0 W 0 (l.take n)) (fin : ∀ a w, AOT ops φ vr n a0 W (lst ops.size n) a w → wpList P ops Q (l.drop n) a w) :
    ∀ (fuel : Nat) (listed : Array Bool) (a : Act) (w : World), AOT ops φ vr n a0 W listed a w → unl listed = fuel → wpAny P .any ops Q fuel listed a w := by
  have hn : n < ops.size := by
    unfold aoTB at hB; simp only [Bool.and_eq_true, decide_eq_true_eq] at hB; exact hB.1
  intro fuel
  induction fuel with
  | zero =>
    intro listed a w inv hf; have h1 := inv.head.tail n (Nat.le_refl _) hn; have := unl_set h1; omega
  | succ fuel ih =>
    intro listed a w inv hf
    by_cases hall : ∀ i, i < n → listed.getD i true = true
    · have he := lst_eq inv.head.size hn hall inv.head.tail; subst he; have := wpAny_of_seq (md := .any) (Q' := Q) (P := P) (ops := ops) (l.drop n) n _ a w (fun j => by rw [hops]; simp [List.getElem?_drop]) (by rw [show (l.drop n).length = ops.size - n by rw [hops]; simp]; exact hseq) (fin a w inv); rw [show (l.drop n).length = ops.size - n by rw [hops]; simp] at this; rw [← hf, hunl]; exact this
    · have hex : ∃ i, i < n ∧ listed.getD i true = false := by
        apply Classical.byContradiction
        intro hne; refine hall fun i hi => ?_
        cases hq : listed.getD i true with
        | true => rfl
        | false => exact absurd ⟨i, hi, hq⟩ hne
      obtain ⟨i0, hi0, hl0⟩ := hex; refine ⟨fun hr => ?_, fun i hi => ?_⟩
      · obtain ⟨j, _, hj⟩ := least_ready inv.head.size hB i0 (by omega) hl0; rw [hr] at hj
        cases hj
      · have hin : i < n := by
          rcases Nat.lt_or_ge i n with h | h
          · exact h
          · exact absurd hi (tail_waits hsink hchain hn inv.head _ i0 rfl hi0 hl0 i h)
        obtain ⟨hun, o, ho, hdeps⟩ := mem_ready.1 hi; obtain ⟨hback, hd0⟩ := aoTB_spec hB ho; obtain ⟨d, hd, hdn, huniq⟩ := hd0 hin; refine wpOp_step ho fun K hK => ?_
        have hst : AStepT P ops Q φ vr a0 W i o := by
          (have hol : (l.take n)[i]? = some o := by rw [List.getElem?_take_of_lt hin, ← ho, hops]; simp); have := astepsT_get (l.take n) 0 hs i o hol
          simpa using this
        have hgo : ∀ x w', (φ i).p x w' → Below w.heap.size w w' → (vr i = true → x = .pointer (some ⟨w.heap.size, 0, none⟩)) → K (a.put o.dst x) w' := by
          intro x w' hp hb hnew; refine hK _ _ (ih _ _ _ ?_ (by have := unl_set hun; omega)); (have hput : a.put o.dst x = { a with tmps := a.tmps.setIfInBounds d x } := by rw [hd]; rfl); rw [hput]; (have hda : d < a.tmps.size := by rw [inv.len]; exact hdn); refine ⟨inv.head.set hi hin, by simp [inv.len], inv.defers, fun s hs' => ?_, fun j oj dj hjn hj hdj hl => ?_, fun i1 j1 oi oj di dj hi1 hj1 hne v1 v2 ho1 ho2 hd1 hd2 l1 l2 => ?_, inv.bel.trans (hb.mono inv.bel.size)⟩
          · rw [← inv.out s hs']; exact Array.getElem?_setIfInBounds_ne (out_ne hs' ho hd)
          · by_cases hji : j = i
            · subst hji; have : oj = o := Option.some.inj (hj.symm.trans ho); subst this; have : dj = d := Option.some.inj (hdj.symm.trans hd); subst this; exact ⟨x, by simp [hda], hp⟩
            · (have hl' : listed.getD j false = true := by rw [getD_set_ne false (Ne.symm hji)] at hl; exact hl); obtain ⟨y, hy, hpy⟩ := inv.val j oj dj hjn hj hdj hl'; refine ⟨y, ?_, (φ j).mono _ _ _ hpy hb⟩; rw [Array.getElem?_setIfInBounds_ne (fun e => hji (huniq j oj hjn hj (by rw [hdj, e])))]; exact hy
          · have hold : ∀ j oj dj, j < n → j ≠ i → vr j = true → ops[j]? = some oj → oj.dst = some dj → (listed.setIfInBounds i true).getD j false = true → vr i = true → (a.tmps.setIfInBounds d x)[dj]? ≠ some x := by
              intro j oj dj hjn hji vj hj hdj hl vi; (have hl' : listed.getD j false = true := by rw [getD_set_ne false (Ne.symm hji)] at hl; exact hl); obtain ⟨y, hy, hpy⟩ := inv.val j oj dj hjn hj hdj hl'; rw [Array.getElem?_setIfInBounds_ne (fun e => hji (huniq j oj hjn hj (by rw [hdj, e]))), hy]; obtain ⟨g, rfl, hg⟩ := hvr j y w vj hpy; rw [hnew vi]; intro e; injection e with e; injection e with e; injection e with e; injection e with e; exact absurd e (Nat.ne_of_lt hg)
            (have hself : (a.tmps.setIfInBounds d x)[d]? = some x := by simp [hda])
            by_cases e1 : i1 = i
            · subst e1; have : oi = o := Option.some.inj (ho1.symm.trans ho); subst this; have : di = d := Option.some.inj (hd1.symm.trans hd); subst this; show (a.tmps.setIfInBounds di x)[di]? ≠ (a.tmps.setIfInBounds di x)[dj]?; rw [hself]; exact Ne.symm (hold j1 oj dj hj1 (Ne.symm hne) v2 ho2 hd2 l2 v1)
            · by_cases e2 : j1 = i
              · subst e2; have : oj = o := Option.some.inj (ho2.symm.trans ho); subst this; have : dj = d := Option.some.inj (hd2.symm.trans hd); subst this; show (a.tmps.setIfInBounds dj x)[di]? ≠ (a.tmps.setIfInBounds dj x)[dj]?; rw [hself]; exact hold i1 oi di hi1 e1 v1 ho1 hd1 l1 v2
              · show (a.tmps.setIfInBounds d x)[di]? ≠ (a.tmps.setIfInBounds d x)[dj]?; rw [Array.getElem?_setIfInBounds_ne (fun e => e1 (huniq i1 oi hi1 ho1 (by rw [hd1, e]))), Array.getElem?_setIfInBounds_ne (fun e => e2 (huniq j1 oj hj1 ho2 (by rw [hd2, e])))]; exact inv.apart i1 j1 oi oj di dj hi1 hj1 hne v1 v2 ho1 ho2 hd1 hd2 (by rw [getD_set_ne false (Ne.symm e1)] at l1; exact l1) (by rw [getD_set_ne false (Ne.symm e2)] at l2; exact l2)
        refine hst a w K inv.out (fun j oj dj hj hdj hdep => ?_) inv.bel hgo; obtain ⟨e, he, hbe⟩ := Array.any_eq_true'.1 hdep; simp only [Bool.and_eq_true, beq_iff_eq] at hbe; have h5 := hdeps e he hbe.1; rw [hbe.2] at h5; (have hjn : j < n := by have := hback e he; omega); exact inv.val j oj dj hjn hj hdj h5
theorem wp_region_orderT {id : Nat} {w0 : World} {l : List Oper} (n : Nat) (φ : Nat → SP) (vr : Nat → Bool) (hvr : ∀ j y w, vr j = true → (φ j).p y w → ∃ g, y = .pointer (some ⟨g, 0, none⟩) ∧ g < w.heap.size) (hm : P.follows .mixedOrders = true) (hB : (aoTB l.toArray n a0.tmps.size && Region.sinkB .any l.toArray n && Region.chainB .any l.toArray n && Region.seqB .any l.toArray (l.toArray.size - n) n (lst l.toArray.size n) && decide (unl (lst l.toArray.size n) = l.toArray.size - n)) = true)
    (hs : AStepsT P l.toArray Q φ vr a0 w0 0 (l.take n)) (fin : ∀ a w, AOT l.toArray φ vr n a0 w0 (lst l.toArray.size n) a w → wpList P l.toArray Q (l.drop n) a w) : (Code.region id l.toArray true).wp P Q a0 w0 := by
  simp only [Bool.and_eq_true, decide_eq_true_eq] at hB; obtain ⟨⟨⟨⟨h1, h2⟩, h3⟩, h4⟩, h5⟩ := hB; refine wp_region_any hm (ao_anyT hvr rfl h1 h2 h3 h4 h5 hs fin _ _ _ _ ⟨⟨by simp, fun j oj _ hl => (by rw [getD_rep] at hl; cases hl), fun t _ ht => getD_in (by simpa using ht) (getD_rep _ _)⟩, rfl, rfl, fun _ _ => rfl, fun i o d _ _ _ hl => (by rw [getD_rep] at hl; cases hl), fun _ _ _ _ _ _ _ _ _ _ _ _ _ _ _ hl _ => (by rw [getD_rep] at hl; cases hl), (Below.refl _ w0).drew⟩ ?_); unfold unl; rw [Array.toList_replicate, List.countP_replicate]; simp
theorem ao_finT {vr : Nat → Bool} {isD : Nat → Bool} {l : List Oper} (hD : ((List.range a0.tmps.size).all fun s => isD s || outB l.toArray s) = true)
    (h : ∀ (f : Nat → Value) (w : World), (∀ i o d, i < n → l.toArray[i]? = some o → o.dst = some d → (φ i).p (f d) w) → (∀ i j oi oj di dj, i < n → j < n → i ≠ j → vr i = true → vr j = true → l.toArray[i]? = some oi → l.toArray[j]? = some oj → oi.dst = some di → oj.dst = some dj → f di ≠ f dj) → Below W.heap.size W w → wpList P l.toArray Q (l.drop n) ⟨(frm f isD 0 a0.tmps.toList).toArray, a0.defers⟩ w) :
    ∀ a w, AOT l.toArray φ vr n a0 W (lst l.toArray.size n) a w → wpList P l.toArray Q (l.drop n) a w := by
  intro a w inv; have hf := ao_frame (ops := l.toArray) (φ := fun _ => SP.free) (a0 := a0) (W := W) (listed := Array.replicate l.toArray.size false) (a := a) (w := w) ⟨by simp, inv.len, inv.defers, inv.out, fun i o d _ _ hl => (by rw [getD_rep] at hl; cases hl), inv.bel⟩ isD hD; rw [hf]; (have hlst : ∀ i, i < n → (lst l.toArray.size n).getD i false = true := fun i hi => by unfold lst; simp [hi, Array.getElem?_append]); refine h _ w (fun i o d hin ho hd => ?_) (fun i j oi oj di dj hi hj hne v1 v2 ho1 ho2 hd1 hd2 e => ?_) inv.bel
  · obtain ⟨x, hx, hp⟩ := inv.val i o d hin ho hd (hlst i hin); simp only [hx, Option.getD_some]; exact hp
  · obtain ⟨x, hx, _⟩ := inv.val i oi di hi ho1 hd1 (hlst i hi); obtain ⟨y, hy, _⟩ := inv.val j oj dj hj ho2 hd2 (hlst j hj); refine inv.apart i j oi oj di dj hi hj hne v1 v2 ho1 ho2 hd1 hd2 (hlst i hi) (hlst j hj) ?_; simp only [hx, hy, Option.getD_some] at e; rw [hx, hy, e]
end
open Go.RowKit
section
variable {P : Program} {ops : Array Oper} {Q : Exit → Act → World → Prop} {φ : Nat → SP} {a0 : Act} {W : World} {n : Nat}
def aoAB (ops : Array Oper) (n m : Nat) : Bool :=
  decide (n < ops.size) && (List.range n).all fun i => match ops[i]? with
    | some o => (o.after.all fun e => decide (e.on < i)) && (match o.dst with
      | some d => decide (d < m) && ((List.range n).all fun j => j == i || !(((ops[j]?).bind (·.dst)) == some d))
      | none => false)
    | none => true
theorem aoAB_spec {m : Nat} (h : aoAB ops n m = true) {i : Nat} {o : Oper} (ho : ops[i]? = some o) (hin : i < n) : (∀ e ∈ o.after, e.on < i) ∧ ∃ d, o.dst = some d ∧ d < m ∧ ∀ j oj, j < n → ops[j]? = some oj → oj.dst = some d → j = i := by
  unfold aoAB at h; simp only [Bool.and_eq_true, decide_eq_true_eq] at h; have h1 := List.all_eq_true.1 h.2 i (List.mem_range.2 hin); simp only [ho] at h1; simp only [Bool.and_eq_true] at h1; obtain ⟨h2, h3⟩ := h1
  refine ⟨fun e he => by
    have := Array.all_eq_true'.1 h2 e he
    simpa using this, ?_⟩
  cases hd : o.dst with
  | none => simp [hd] at h3
  | some d =>
    simp only [hd, Bool.and_eq_true, decide_eq_true_eq] at h3; refine ⟨d, rfl, h3.1, fun j oj hjn hj hjd => ?_⟩; have h4 := List.all_eq_true.1 h3.2 j (List.mem_range.2 hjn); simp only [hj, Option.bind_some, hjd, Bool.or_eq_true, beq_iff_eq] at h4
    rcases h4 with h4 | h4
    · exact h4
    · simp at h4
theorem least_readyA {listed : Array Bool} (hsz : listed.size = ops.size) (hn : n < ops.size) {m : Nat} (hB : aoAB ops n m = true) : ∀ (i : Nat), i < n → listed.getD i false = false → ∃ j, j ≤ i ∧ j ∈ Region.ready .any ops listed := by
  intro i
  induction i using Nat.strongRecOn with
  | _ i ih =>
    intro hin hl; (have hi : i < ops.size := by omega); obtain ⟨o, ho⟩ : ∃ o, ops[i]? = some o := ⟨ops[i], Array.getElem?_eq_getElem hi⟩; have hb := (aoAB_spec hB ho hin).1
    by_cases hall : ∀ e ∈ o.after, Region.binds .any e = true → listed.getD e.on false = true
    · exact ⟨i, Nat.le_refl _, mem_ready.2 ⟨getD_in (by omega) hl, o, ho, hall⟩⟩
    · have hex : ∃ e ∈ o.after, listed.getD e.on false = false := by
        apply Classical.byContradiction
        intro hne; refine hall fun e he _ => ?_
        cases hq : listed.getD e.on false with
        | true => rfl
        | false => exact absurd ⟨e, he, hq⟩ hne
      obtain ⟨e, he, hq⟩ := hex; have hlt := hb e he; obtain ⟨j, hj, hr⟩ := ih e.on hlt (by omega) hq; exact ⟨j, by omega, hr⟩
theorem ao_anyA {l : List Oper} {vr : Nat → Bool} (hvr : ∀ j y w, vr j = true → (φ j).p y w → ∃ g, y = .pointer (some ⟨g, 0, none⟩) ∧ g < w.heap.size) (hops : ops = l.toArray) (hB : aoAB ops n a0.tmps.size = true) (hwait : ∀ t i, n ≤ t → t < ops.size → i < n → Region.waitsFor .any ops t i = true) (hunl : unl (lst ops.size n) = ops.size - n)
    (hs : AStepsT P ops Q φ vr a0 W 0 (l.take n)) (fin : ∀ a w, AOT ops φ vr n a0 W (lst ops.size n) a w → wpAny P .any ops Q (ops.size - n) (lst ops.size n) a w) :
    ∀ (fuel : Nat) (listed : Array Bool) (a : Act) (w : World), AOT ops φ vr n a0 W listed a w → unl listed = fuel → wpAny P .any ops Q fuel listed a w := by
  have hn : n < ops.size := by
    unfold aoAB at hB; simp only [Bool.and_eq_true, decide_eq_true_eq] at hB; exact hB.1
  intro fuel
  induction fuel with
  | zero =>
    intro listed a w inv hf; have h1 := inv.head.tail n (Nat.le_refl _) hn; have := unl_set h1; omega
  | succ fuel ih =>
    intro listed a w inv hf
    by_cases hall : ∀ i, i < n → listed.getD i true = true
    · have he := lst_eq inv.head.size hn hall inv.head.tail; subst he; rw [← hf, hunl]; exact fin a w inv
    · have hex : ∃ i, i < n ∧ listed.getD i true = false := by
        apply Classical.byContradiction
        intro hne; refine hall fun i hi => ?_
        cases hq : listed.getD i true with
        | true => rfl
        | false => exact absurd ⟨i, hi, hq⟩ hne
      obtain ⟨i0, hi0, hl0⟩ := hex; refine ⟨fun hr => ?_, fun i hi => ?_⟩
      · obtain ⟨j, _, hj⟩ := least_readyA inv.head.size hn hB i0 hi0 (getD_both hl0); rw [hr] at hj
        cases hj
      · have hin : i < n := by
          rcases Nat.lt_or_ge i n with h | h
          · exact h
          · exfalso
            obtain ⟨_, ot, hot, hall⟩ := mem_ready.1 hi; obtain ⟨oj, hoj, e, he, hb, hon⟩ := Region.waitsFor_spec (hwait i i0 h (Array.getElem?_eq_some_iff.1 hot).1 hi0); have : oj = ot := Option.some.inj (hoj.symm.trans hot); subst this; have h1 := hall e he hb; rw [hon] at h1; (have hlt : i0 < listed.size := by rw [inv.head.size]; omega); simp [hlt] at h1 hl0; rw [hl0] at h1
            cases h1
        obtain ⟨hun, o, ho, hdeps⟩ := mem_ready.1 hi; obtain ⟨hback, d, hd, hdn, huniq⟩ := aoAB_spec hB ho hin; refine wpOp_step ho fun K hK => ?_
        have hst : AStepT P ops Q φ vr a0 W i o := by
          (have hol : (l.take n)[i]? = some o := by rw [List.getElem?_take_of_lt hin, ← ho, hops]; simp); have := astepsT_get (l.take n) 0 hs i o hol
          simpa using this
        have hgo : ∀ x w', (φ i).p x w' → Below w.heap.size w w' → (vr i = true → x = .pointer (some ⟨w.heap.size, 0, none⟩)) → K (a.put o.dst x) w' := by
          intro x w' hp hb hnew; refine hK _ _ (ih _ _ _ ?_ (by have := unl_set hun; omega)); (have hput : a.put o.dst x = { a with tmps := a.tmps.setIfInBounds d x } := by rw [hd]; rfl); rw [hput]; (have hda : d < a.tmps.size := by rw [inv.len]; exact hdn); refine ⟨inv.head.set hi hin, by simp [inv.len], inv.defers, fun s hs' => ?_, fun j oj dj hjn hj hdj hl => ?_, fun i1 j1 oi oj di dj hi1 hj1 hne v1 v2 ho1 ho2 hd1 hd2 l1 l2 => ?_, inv.bel.trans (hb.mono inv.bel.size)⟩
          · rw [← inv.out s hs']; exact Array.getElem?_setIfInBounds_ne (out_ne hs' ho hd)
          · by_cases hji : j = i
            · subst hji; have : oj = o := Option.some.inj (hj.symm.trans ho); subst this; have : dj = d := Option.some.inj (hdj.symm.trans hd); subst this; exact ⟨x, by simp [hda], hp⟩
            · (have hl' : listed.getD j false = true := by rw [getD_set_ne false (Ne.symm hji)] at hl; exact hl); obtain ⟨y, hy, hpy⟩ := inv.val j oj dj hjn hj hdj hl'; refine ⟨y, ?_, (φ j).mono _ _ _ hpy hb⟩; rw [Array.getElem?_setIfInBounds_ne (fun e => hji (huniq j oj hjn hj (by rw [hdj, e])))]; exact hy
          · have hold : ∀ j oj dj, j < n → j ≠ i → vr j = true → ops[j]? = some oj → oj.dst = some dj → (listed.setIfInBounds i true).getD j false = true → vr i = true → (a.tmps.setIfInBounds d x)[dj]? ≠ some x := by
              intro j oj dj hjn hji vj hj hdj hl vi; (have hl' : listed.getD j false = true := by rw [getD_set_ne false (Ne.symm hji)] at hl; exact hl); obtain ⟨y, hy, hpy⟩ := inv.val j oj dj hjn hj hdj hl'; rw [Array.getElem?_setIfInBounds_ne (fun e => hji (huniq j oj hjn hj (by rw [hdj, e]))), hy]; obtain ⟨g, rfl, hg⟩ := hvr j y w vj hpy; rw [hnew vi]; intro e; injection e with e; injection e with e; injection e with e; injection e with e; exact absurd e (Nat.ne_of_lt hg)
            (have hself : (a.tmps.setIfInBounds d x)[d]? = some x := by simp [hda])
            by_cases e1 : i1 = i
            · subst e1; have : oi = o := Option.some.inj (ho1.symm.trans ho); subst this; have : di = d := Option.some.inj (hd1.symm.trans hd); subst this; show (a.tmps.setIfInBounds di x)[di]? ≠ (a.tmps.setIfInBounds di x)[dj]?; rw [hself]; exact Ne.symm (hold j1 oj dj hj1 (Ne.symm hne) v2 ho2 hd2 l2 v1)
            · by_cases e2 : j1 = i
              · subst e2; have : oj = o := Option.some.inj (ho2.symm.trans ho); subst this; have : dj = d := Option.some.inj (hd2.symm.trans hd); subst this; show (a.tmps.setIfInBounds dj x)[di]? ≠ (a.tmps.setIfInBounds dj x)[dj]?; rw [hself]; exact hold i1 oi di hi1 e1 v1 ho1 hd1 l1 v2
              · show (a.tmps.setIfInBounds d x)[di]? ≠ (a.tmps.setIfInBounds d x)[dj]?; rw [Array.getElem?_setIfInBounds_ne (fun e => e1 (huniq i1 oi hi1 ho1 (by rw [hd1, e]))), Array.getElem?_setIfInBounds_ne (fun e => e2 (huniq j1 oj hj1 ho2 (by rw [hd2, e])))]; exact inv.apart i1 j1 oi oj di dj hi1 hj1 hne v1 v2 ho1 ho2 hd1 hd2 (by rw [getD_set_ne false (Ne.symm e1)] at l1; exact l1) (by rw [getD_set_ne false (Ne.symm e2)] at l2; exact l2)
        refine hst a w K inv.out (fun j oj dj hj hdj hdep => ?_) inv.bel hgo; obtain ⟨e, he, hbe⟩ := Array.any_eq_true'.1 hdep; simp only [Bool.and_eq_true, beq_iff_eq] at hbe; have h5 := hdeps e he hbe.1; rw [hbe.2] at h5; (have hjn : j < n := by have := hback e he; omega); exact inv.val j oj dj hjn hj hdj h5
def waitB (ops : Array Oper) (n : Nat) : Bool := (List.range ops.size).all fun t => decide (t < n) || (List.range n).all fun i => Region.waitsFor .any ops t i
theorem waitB_spec (h : waitB ops n = true) : ∀ t i, n ≤ t → t < ops.size → i < n → Region.waitsFor .any ops t i = true := fun t i h1 h2 h3 => by
  have := List.all_eq_true.1 h t (List.mem_range.2 h2); simp only [Bool.or_eq_true, decide_eq_true_eq] at this
  rcases this with h4 | h4
  · omega
  · exact List.all_eq_true.1 h4 i (List.mem_range.2 h3)
def endB (ops : Array Oper) (n : Nat) : Bool :=
  let r := Region.ready .any ops
  let s := fun (L : Array Bool) i => L.setIfInBounds i true
  let L := s (lst (n + 4) n) n
  decide (ops.size = n + 4) && decide (unl (lst ops.size n) = 4) && decide (r (lst (n + 4) n) = [n]) && decide (r L = [n + 1, n + 3]) && decide (r (s L (n + 1)) = [n + 2, n + 3]) && decide (r (s (s L (n + 1)) (n + 2)) = [n + 3]) && decide (r (s (s (s L (n + 1)) (n + 2)) (n + 3)) = []) &&
    decide (r (s (s L (n + 1)) (n + 3)) = [n + 2]) && decide (r (s (s (s L (n + 1)) (n + 3)) (n + 2)) = []) && decide (r (s L (n + 3)) = [n + 1]) && decide (r (s (s L (n + 3)) (n + 1)) = [n + 2]) && decide (r (s (s (s L (n + 3)) (n + 1)) (n + 2)) = [])
theorem any_one {fuel i : Nat} {listed : Array Bool} {a : Act} {w : World} (hr : Region.ready .any ops listed = [i]) (h : wpOp P ops Q i (wpAny P .any ops Q fuel (listed.setIfInBounds i true)) a w) : wpAny P .any ops Q (fuel + 1) listed a w := by
  refine ⟨fun h1 => (by rw [hr] at h1; cases h1), fun j hj => ?_⟩; rw [hr] at hj; (obtain rfl : j = i := by simpa using hj); exact h
theorem any_two {fuel i k : Nat} {listed : Array Bool} {a : Act} {w : World} (hr : Region.ready .any ops listed = [i, k]) (h : wpOp P ops Q i (wpAny P .any ops Q fuel (listed.setIfInBounds i true)) a w) (h' : wpOp P ops Q k (wpAny P .any ops Q fuel (listed.setIfInBounds k true)) a w) : wpAny P .any ops Q (fuel + 1) listed a w := by
  refine ⟨fun h1 => (by rw [hr] at h1; cases h1), fun j hj => ?_⟩; rw [hr] at hj; simp at hj
  rcases hj with rfl | rfl
  · exact h
  · exact h'
theorem wpOp_list {i : Nat} {o : Oper} {rest : List Oper} {K : Act → World → Prop} {a : Act} {w : World} (ho : ops[i]? = some o) (hK : ∀ a w, wpList P ops Q rest a w → K a w) (h : wpList P ops Q (o :: rest) a w) : wpOp P ops Q i K a w := by
  refine wpOp_mono hK ?_; unfold wpOp; simp only [ho]; exact h
def EndK (P : Program) (ops : Array Oper) (Q : Exit → Act → World → Prop) (oI oS oV : Oper) (a : Act) (w : World) : Prop :=
  (if Region.wanted oI (yielded ops a.tmps) = true then Oper.wp P oI a w (fun a w => wpList P ops Q [oS, oV] a w ∧ wpList P ops Q [oV, oS] a w) Q else False) ∧ wpList P ops Q [oV, oI, oS] a w
theorem wp_end {oA oI oS oV : Oper} {a : Act} {w : World} (hB : endB ops n = true) (h0 : ops[n]? = some oA) (h1 : ops[n + 1]? = some oI) (h2 : ops[n + 2]? = some oS) (h3 : ops[n + 3]? = some oV)
    (h : if Region.wanted oA (yielded ops a.tmps) = true then Oper.wp P oA a w (EndK P ops Q oI oS oV) Q else False) :
    wpAny P .any ops Q (ops.size - n) (lst ops.size n) a w := by
  unfold endB at hB; simp only [Bool.and_eq_true, decide_eq_true_eq] at hB; obtain ⟨⟨⟨⟨⟨⟨⟨⟨⟨⟨⟨hsz, _⟩, r0⟩, r1⟩, r2⟩, r3⟩, r4⟩, r5⟩, r6⟩, r7⟩, r8⟩, r9⟩ := hB; rw [hsz, show n + 4 - n = 3 + 1 by omega]; refine any_one r0 ?_
  have hw : wpOp P ops Q n (EndK P ops Q oI oS oV) a w := by
    refine wpOp_step h0 fun K' hK' => ?_
    split at h
    · rename_i hw
      rw [if_pos hw]; exact Oper.wp_mono hK' h
    · exact h.elim
  refine wpOp_mono (fun a w hh => ?_) hw; obtain ⟨g1, g3⟩ := hh; refine any_two (fuel := 2) r1 ?_ ?_
  · have hw : wpOp P ops Q (n + 1) (fun a w => wpList P ops Q [oS, oV] a w ∧ wpList P ops Q [oV, oS] a w) a w := by
      refine wpOp_step h1 fun K' hK' => ?_
      split at g1
      · rename_i hw
        rw [if_pos hw]; exact Oper.wp_mono hK' g1
      · exact g1.elim
    refine wpOp_mono (fun a w hh => ?_) hw; refine any_two (fuel := 1) r2 ?_ ?_
    · exact wpOp_list h2 (fun a w hh => any_one (fuel := 0) r3 (wpOp_list (rest := []) h3 (fun a w hh => ⟨r4, hh⟩) hh)) hh.1
    · exact wpOp_list h3 (fun a w hh => any_one (fuel := 0) r5 (wpOp_list (rest := []) h2 (fun a w hh => ⟨r6, hh⟩) hh)) hh.2
  · exact wpOp_list h3 (fun a w hh => any_one (fuel := 1) r7 (wpOp_list h1 (fun a w hh => any_one (fuel := 0) r8 (wpOp_list (rest := []) h2 (fun a w hh => ⟨r9, hh⟩) hh)) hh)) g3
theorem wp_region_orderA {id : Nat} {w0 : World} {l : List Oper} (n : Nat) (φ : Nat → SP) (vr : Nat → Bool) (hvr : ∀ j y w, vr j = true → (φ j).p y w → ∃ g, y = .pointer (some ⟨g, 0, none⟩) ∧ g < w.heap.size) (hm : P.follows .mixedOrders = true) (hB : (aoAB l.toArray n a0.tmps.size && waitB l.toArray n && endB l.toArray n) = true)
    (hs : AStepsT P l.toArray Q φ vr a0 w0 0 (l.take n)) (fin : ∀ a w, AOT l.toArray φ vr n a0 w0 (lst l.toArray.size n) a w → wpAny P .any l.toArray Q (l.toArray.size - n) (lst l.toArray.size n) a w) : (Code.region id l.toArray true).wp P Q a0 w0 := by
  simp only [Bool.and_eq_true] at hB; obtain ⟨⟨h1, h2⟩, h3⟩ := hB
  have hunl : unl (lst l.toArray.size n) = l.toArray.size - n := by
    unfold endB at h3; simp only [Bool.and_eq_true, decide_eq_true_eq] at h3; obtain ⟨⟨⟨⟨⟨⟨⟨⟨⟨⟨⟨hsz, h4⟩, _⟩, _⟩, _⟩, _⟩, _⟩, _⟩, _⟩, _⟩, _⟩, _⟩ := h3; omega
  refine wp_region_any hm (ao_anyA hvr rfl h1 (waitB_spec h2) hunl hs fin _ _ _ _ ⟨⟨by simp, fun j oj _ hl => (by rw [getD_rep] at hl; cases hl), fun t _ ht => getD_in (by simpa using ht) (getD_rep _ _)⟩, rfl, rfl, fun _ _ => rfl, fun i o d _ _ _ hl => (by rw [getD_rep] at hl; cases hl), fun _ _ _ _ _ _ _ _ _ _ _ _ _ _ _ hl _ => (by rw [getD_rep] at hl; cases hl), (Below.refl _ w0).drew⟩ ?_); unfold unl; rw [Array.toList_replicate, List.countP_replicate]; simp
theorem ao_finA {vr : Nat → Bool} {isD : Nat → Bool} {l : List Oper} {R : Act → World → Prop} (hD : ((List.range a0.tmps.size).all fun s => isD s || outB l.toArray s) = true)
    (h : ∀ (f : Nat → Value) (w : World), (∀ i o d, i < n → l.toArray[i]? = some o → o.dst = some d → (φ i).p (f d) w) → (∀ i j oi oj di dj, i < n → j < n → i ≠ j → vr i = true → vr j = true → l.toArray[i]? = some oi → l.toArray[j]? = some oj → oi.dst = some di → oj.dst = some dj → f di ≠ f dj) → Below W.heap.size W w → R ⟨(frm f isD 0 a0.tmps.toList).toArray, a0.defers⟩ w) :
    ∀ a w, AOT l.toArray φ vr n a0 W (lst l.toArray.size n) a w → R a w := by
  intro a w inv; have hf := ao_frame (ops := l.toArray) (φ := fun _ => SP.free) (a0 := a0) (W := W) (listed := Array.replicate l.toArray.size false) (a := a) (w := w) ⟨by simp, inv.len, inv.defers, inv.out, fun i o d _ _ hl => (by rw [getD_rep] at hl; cases hl), inv.bel⟩ isD hD; rw [hf]; (have hlst : ∀ i, i < n → (lst l.toArray.size n).getD i false = true := fun i hi => by unfold lst; simp [hi, Array.getElem?_append]); refine h _ w (fun i o d hin ho hd => ?_) (fun i j oi oj di dj hi hj hne v1 v2 ho1 ho2 hd1 hd2 e => ?_) inv.bel
  · obtain ⟨x, hx, hp⟩ := inv.val i o d hin ho hd (hlst i hin); simp only [hx, Option.getD_some]; exact hp
  · obtain ⟨x, hx, _⟩ := inv.val i oi di hi ho1 hd1 (hlst i hi); obtain ⟨y, hy, _⟩ := inv.val j oj dj hj ho2 hd2 (hlst j hj); refine inv.apart i j oi oj di dj hi hj hne v1 v2 ho1 ho2 hd1 hd2 (hlst i hi) (hlst j hj) ?_; simp only [hx, hy, Option.getD_some] at e; rw [hx, hy, e]
end
open Go.RowKit
section
variable {P : Program} {ops : Array Oper} {Q : Exit → Act → World → Prop} {a0 : Act} {n : Nat}
def endL (ops : Array Oper) (n : Nat) : Bool :=
  let r := Region.ready .any ops
  let s := fun (L : Array Bool) i => L.setIfInBounds i true
  let L := lst (n + 4) n
  decide (ops.size = n + 4) && decide (unl (lst ops.size n) = 4) && decide (r L = [n]) && decide (r (s L n) = [n + 1]) && decide (r (s (s L n) (n + 1)) = [n + 2]) && decide (r (s (s (s L n) (n + 1)) (n + 2)) = [n + 3]) && decide (r (s (s (s (s L n) (n + 1)) (n + 2)) (n + 3)) = [])
theorem wp_tail4 {o0 o1 o2 o3 : Oper} {a : Act} {w : World} (hB : endL ops n = true) (h0 : ops[n]? = some o0) (h1 : ops[n + 1]? = some o1) (h2 : ops[n + 2]? = some o2) (h3 : ops[n + 3]? = some o3)
    (h : wpList P ops Q [o0, o1, o2, o3] a w) : wpAny P .any ops Q (ops.size - n) (lst ops.size n) a w := by
  unfold endL at hB; simp only [Bool.and_eq_true, decide_eq_true_eq] at hB; obtain ⟨⟨⟨⟨⟨⟨hsz, _⟩, r0⟩, r1⟩, r2⟩, r3⟩, r4⟩ := hB; rw [hsz, show n + 4 - n = 3 + 1 by omega]; refine any_one r0 (wpOp_list h0 (fun a w hh => ?_) h); refine any_one (fuel := 2) r1 (wpOp_list h1 (fun a w hh => ?_) hh); refine any_one (fuel := 1) r2 (wpOp_list h2 (fun a w hh => ?_) hh); exact any_one (fuel := 0) r3 (wpOp_list (rest := []) h3 (fun a w hh => ⟨r4, hh⟩) hh)
theorem wp_region_orderL {id : Nat} {w0 : World} {l : List Oper} (n : Nat) (φ : Nat → SP) (vr : Nat → Bool) (hvr : ∀ j y w, vr j = true → (φ j).p y w → ∃ g, y = .pointer (some ⟨g, 0, none⟩) ∧ g < w.heap.size) (hm : P.follows .mixedOrders = true) (hB : (aoAB l.toArray n a0.tmps.size && waitB l.toArray n && endL l.toArray n) = true)
    (hs : AStepsT P l.toArray Q φ vr a0 w0 0 (l.take n)) (fin : ∀ a w, AOT l.toArray φ vr n a0 w0 (lst l.toArray.size n) a w → wpAny P .any l.toArray Q (l.toArray.size - n) (lst l.toArray.size n) a w) : (Code.region id l.toArray true).wp P Q a0 w0 := by
  simp only [Bool.and_eq_true] at hB; obtain ⟨⟨h1, h2⟩, h3⟩ := hB
  have hunl : unl (lst l.toArray.size n) = l.toArray.size - n := by
    unfold endL at h3; simp only [Bool.and_eq_true, decide_eq_true_eq] at h3; obtain ⟨⟨⟨⟨⟨⟨hsz, h4⟩, _⟩, _⟩, _⟩, _⟩, _⟩ := h3; omega
  refine wp_region_any hm (ao_anyA hvr rfl h1 (waitB_spec h2) hunl hs fin _ _ _ _ ⟨⟨by simp, fun j oj _ hl => (by rw [getD_rep] at hl; cases hl), fun t _ ht => getD_in (by simpa using ht) (getD_rep _ _)⟩, rfl, rfl, fun _ _ => rfl, fun i o d _ _ _ hl => (by rw [getD_rep] at hl; cases hl), fun _ _ _ _ _ _ _ _ _ _ _ _ _ _ _ hl _ => (by rw [getD_rep] at hl; cases hl), (Below.refl _ w0).drew⟩ ?_); unfold unl; rw [Array.toList_replicate, List.countP_replicate]; simp
end
end Go.Proofs.YthgghaaddankoaaGreatDoor
