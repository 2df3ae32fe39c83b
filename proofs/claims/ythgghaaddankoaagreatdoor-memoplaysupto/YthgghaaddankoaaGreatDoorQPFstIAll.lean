/- Lemmas of mine, merged: QPFstI, QPBytesT, QPAnyOrd, QPOwnT, QPAnyOrdS, QPAnyOrdX, QPShowI, QPNumNameA. -/
import Derived.WalkKit
import Derived.WalkSpells
import Derived.WalkLawsBesides
import Derived.Lib.OthersKept
import Derived.Lib.Hide
import Derived.Below
import Derived.Test.YthgghaaddankoaaGreatDoorRows
import Derived.RegionTactic
import Derived.OwnWalk
import Derived.Laws.BytesString
import Derived.Laws.IdiomStrings
/- Lemmas of mine. -/
namespace Go.Proofs.YthgghaaddankoaaGreatDoor
open Go.RowKit
def fstI (p : Nat → Bool) (n : Nat) : Int := match (List.range n).find? p with
  | some i => (i : Int)
  | none => -1
theorem fstI_hit {p : Nat → Bool} {n i : Nat} (hi : i < n) (h0 : ∀ j, j < i → p j = false) (h1 : p i = true) : fstI p n = (i : Int) := by
  unfold fstI
  rw [show (List.range n).find? p = some i from by
    rw [List.find?_range_eq_some]
    exact ⟨by simpa using h1, by simpa using hi, fun j hj => by rw [h0 j hj]; rfl⟩]
theorem fstI_none {p : Nat → Bool} {n : Nat} (h0 : ∀ j, j < n → p j = false) : fstI p n = -1 := by
  unfold fstI
  rw [show (List.range n).find? p = none from by
    rw [List.find?_eq_none]; intro j hj; rw [h0 j (List.mem_range.1 hj)]
    decide]
theorem fstI_lo (p : Nat → Bool) (n : Nat) : -1 ≤ fstI p n := by
  unfold fstI
  split <;> omega
def fstInv (p : Nat → Bool) (n : Nat) (w : World) (y : Value) (W : World) : Prop := ∃ i : Nat, i ≤ n ∧ y = .int .i64 i ∧ (∀ j, j < i → p j = false) ∧ Below w.heap.size w W
theorem fst_next {p : Nat → Bool} {i : Nat} (h : ∀ j, j < i → p j = false) (h1 : p i = false) : ∀ j, j < i + 1 → p j = false := fun j hj => by
  by_cases e : j = i
  · rw [e]; exact h1
  · exact h j (by omega)
open Go.RowKit
def BytesAt (w : World) (a : Option Addr) (l : List UInt8) : Prop :=
  l.length ≤ maxLen ∧ (l = [] ∨ ∃ b off, a = some ⟨b, off, none⟩ ∧ b < w.heap.size ∧ ∀ i (h : i < l.length), w.cell? ⟨b, off + i, none⟩ = some (.int .u8 l[i].toNat))
theorem BytesAt.below {w w' : World} {a : Option Addr} {l : List UInt8} (h : BytesAt w a l) (hb : Below w.heap.size w w') : BytesAt w' a l := by
  obtain ⟨h2, h3⟩ := h; refine ⟨h2, ?_⟩
  rcases h3 with h3 | ⟨b, off, rfl, hlt, hc⟩
  · exact .inl h3
  · exact .inr ⟨b, off, rfl, Nat.lt_of_lt_of_le hlt hb.size, fun i h => by rw [hb.cell (p := ⟨b, off + i, none⟩) hlt]; exact hc i h⟩
open Go.RowKit
structure SP where
  p : Value → World → Prop
  mono : ∀ x w w', p x w → Below w.heap.size w w' → p x w'
def SP.eq (v : Value) : SP := ⟨fun x _ => x = v, fun _ _ _ h _ => h⟩
def SP.imp (b : Bool) (v : Value) : SP := ⟨fun x _ => b = true → x = v, fun _ _ _ h _ => h⟩
def SP.free : SP := ⟨fun _ _ => True, fun _ _ _ h _ => h⟩
def aoB (ops : Array Oper) (n : Nat) : Bool :=
  (List.range ops.size).all fun i => match ops[i]? with
    | some o => (o.after.all fun e => decide (e.on < i)) && (match o.dst with
      | some d => decide (d < n) && ((List.range ops.size).all fun j => j == i || !(((ops[j]?).bind (·.dst)) == some d))
      | none => false)
    | none => true
def outB (ops : Array Oper) (s : Nat) : Bool := (List.range ops.size).all fun j => !(((ops[j]?).bind (·.dst)) == some s)
section
variable {P : Program} {ops : Array Oper} {Q : Exit → Act → World → Prop} {φ : Nat → SP} {a0 : Act} {W : World}
structure AO (ops : Array Oper) (φ : Nat → SP) (a0 : Act) (W : World) (listed : Array Bool) (a : Act) (w : World) : Prop where
  size : listed.size = ops.size
  len : a.tmps.size = a0.tmps.size
  defers : a.defers = a0.defers
  out : ∀ s, outB ops s = true → a.tmps[s]? = a0.tmps[s]?
  val : ∀ i o d, ops[i]? = some o → o.dst = some d → listed.getD i false = true → ∃ x, a.tmps[d]? = some x ∧ (φ i).p x w
  bel : Below W.heap.size W w
def AStep (P : Program) (ops : Array Oper) (Q : Exit → Act → World → Prop) (φ : Nat → SP) (a0 : Act) (W : World) (i : Nat) (o : Oper) : Prop :=
  ∀ (a : Act) (w : World) (K : Act → World → Prop),
    (∀ s, outB ops s = true → a.tmps[s]? = a0.tmps[s]?) →
    (∀ j oj d, ops[j]? = some oj → oj.dst = some d → (o.after.any fun e => Region.binds .any e && e.on == j) = true → ∃ x, a.tmps[d]? = some x ∧ (φ j).p x w) →
    Below W.heap.size W w →
    (∀ x w', (φ i).p x w' → Below w.heap.size w w' → K (a.put o.dst x) w') →
    if Region.wanted o (yielded ops a.tmps) = true then Oper.wp P o a w K Q else K (a.put o.dst undef) w
def ASteps (P : Program) (ops : Array Oper) (Q : Exit → Act → World → Prop) (φ : Nat → SP) (a0 : Act) (W : World) : Nat → List Oper → Prop
  | _, [] => True
  | i, o :: l => AStep P ops Q φ a0 W i o ∧ ASteps P ops Q φ a0 W (i + 1) l
theorem asteps_get : ∀ (l : List Oper) (k : Nat), ASteps P ops Q φ a0 W k l → ∀ j o, l[j]? = some o → AStep P ops Q φ a0 W (k + j) o
  | [], _, _, j, o, h => by simp at h
  | x :: l, k, hs, 0, o, h => by
    simp at h; subst h; exact hs.1
  | x :: l, k, hs, j + 1, o, h => by
    simp at h; have := asteps_get l (k + 1) hs.2 j o h; rw [show k + (j + 1) = k + 1 + j by omega]; exact this
theorem aoB_spec {n : Nat} (h : aoB ops n = true) {i : Nat} {o : Oper} (ho : ops[i]? = some o) : (∀ e ∈ o.after, e.on < i) ∧ ∃ d, o.dst = some d ∧ d < n ∧ ∀ j oj, ops[j]? = some oj → oj.dst = some d → j = i := by
  have hi : i < ops.size := (Array.getElem?_eq_some_iff.1 ho).1; have h1 := List.all_eq_true.1 h i (List.mem_range.2 hi); simp only [ho] at h1; simp only [Bool.and_eq_true] at h1; obtain ⟨h2, h3⟩ := h1
  refine ⟨fun e he => by
    have := Array.all_eq_true'.1 h2 e he
    simpa using this, ?_⟩
  cases hd : o.dst with
  | none => simp [hd] at h3
  | some d =>
    simp only [hd, Bool.and_eq_true, decide_eq_true_eq] at h3; refine ⟨d, rfl, h3.1, fun j oj hj hjd => ?_⟩; have h4 := List.all_eq_true.1 h3.2 j (List.mem_range.2 (Array.getElem?_eq_some_iff.1 hj).1); simp only [hj, Option.bind_some, hjd, Bool.or_eq_true, beq_iff_eq] at h4
    rcases h4 with h4 | h4
    · exact h4
    · simp at h4
theorem out_ne {s i d : Nat} {o : Oper} (h : outB ops s = true) (ho : ops[i]? = some o) (hd : o.dst = some d) : d ≠ s := by
  intro e; subst e; have := List.all_eq_true.1 h i (List.mem_range.2 (Array.getElem?_eq_some_iff.1 ho).1); simp [ho, hd] at this
def unl (listed : Array Bool) : Nat := listed.toList.countP (fun b => !b)
theorem unl_set {listed : Array Bool} {i : Nat} (h : listed.getD i true = false) : unl listed = unl (listed.setIfInBounds i true) + 1 := by
  have hi : i < listed.size := by
    rcases Nat.lt_or_ge i listed.size with h' | h'
    · exact h'
    · simp [Array.getElem?_eq_none h'] at h
  have hv : listed.toList[i]'(by simpa using hi) = false := by
    simp [hi] at h
    simpa using h
  unfold unl; rw [Array.toList_setIfInBounds, List.countP_set (by simpa using hi), hv]; have hpos : 0 < listed.toList.countP (fun b => !b) := List.countP_pos_iff.2 ⟨false, by rw [← hv]; exact List.getElem_mem _, rfl⟩; simp only [Bool.not_false, Bool.not_true, if_true, Bool.false_eq_true, if_false]; omega
theorem all_listed {listed : Array Bool} (hsz : listed.size = ops.size) {n : Nat} (hB : aoB ops n = true) (hr : Region.ready .any ops listed = []) : ∀ i, i < ops.size → listed.getD i false = true := by
  intro i
  induction i using Nat.strongRecOn with
  | _ i ih =>
    intro hi; obtain ⟨o, ho⟩ : ∃ o, ops[i]? = some o := ⟨ops[i], Array.getElem?_eq_getElem hi⟩; have hb := (aoB_spec hB ho).1
    cases hl : listed.getD i false with
    | true => rfl
    | false =>
      have hmem : i ∈ Region.ready .any ops listed := by
        rw [mem_ready]
        refine ⟨by
          (have : i < listed.size := by omega); simp [this] at hl ⊢
          exact hl, o, ho, fun e he _ => ih e.on (hb e he) (by have := hb e he; omega)⟩
      rw [hr] at hmem
      cases hmem
theorem getD_rep (m j : Nat) : (Array.replicate m false).getD j false = false := by
  rcases Nat.lt_or_ge j m with h | h
  · simp [h]
  · simp [h]
theorem ao_done {listed : Array Bool} {a : Act} {w : World} (inv : AO ops φ a0 W listed a w) (hB : aoB ops a0.tmps.size = true) (hr : Region.ready .any ops listed = [])
    (fin : ∀ a w, AO ops φ a0 W (Array.replicate ops.size true) a w → Q .normal a w) : Q .normal a w := by
  refine fin a w ⟨by simp, inv.len, inv.defers, inv.out, fun i o d ho hd _ => inv.val i o d ho hd (all_listed inv.size hB hr i (Array.getElem?_eq_some_iff.1 ho).1), inv.bel⟩
theorem ao_any (hB : aoB ops a0.tmps.size = true) (hs : ASteps P ops Q φ a0 W 0 ops.toList) (fin : ∀ a w, AO ops φ a0 W (Array.replicate ops.size true) a w → Q .normal a w) :
    ∀ (fuel : Nat) (listed : Array Bool) (a : Act) (w : World), AO ops φ a0 W listed a w → unl listed = fuel → wpAny P .any ops Q fuel listed a w
  | 0, listed, a, w, inv, hf => by
    have hr : Region.ready .any ops listed = [] := by
      rw [List.eq_nil_iff_forall_not_mem]; intro i hi; have h1 := (mem_ready.1 hi).1; have := unl_set h1; omega
    exact ⟨hr, ao_done inv hB hr fin⟩
  | fuel + 1, listed, a, w, inv, hf => by
    refine ⟨fun hr => ao_done inv hB hr fin, fun i hi => ?_⟩; obtain ⟨hun, o, ho, hall⟩ := mem_ready.1 hi; obtain ⟨hback, d, hd, hdn, huniq⟩ := aoB_spec hB ho; refine wpOp_step ho fun K hK => ?_
    have hst : AStep P ops Q φ a0 W i o := by
      have := asteps_get ops.toList 0 hs i o (by simpa using ho)
      simpa using this
    have hgo : ∀ x w', (φ i).p x w' → Below w.heap.size w w' → K (a.put o.dst x) w' := by
      intro x w' hp hb; refine hK _ _ (ao_any hB hs fin fuel _ _ _ ?_ (by have := unl_set hun; omega)); (have hput : a.put o.dst x = { a with tmps := a.tmps.setIfInBounds d x } := by rw [hd]; rfl); rw [hput]; (have hda : d < a.tmps.size := by rw [inv.len]; exact hdn); refine ⟨by simp [inv.size], by simp [inv.len], inv.defers, fun s hs' => ?_, fun j oj dj hj hdj hl => ?_, inv.bel.trans (hb.mono inv.bel.size)⟩
      · rw [← inv.out s hs']; exact Array.getElem?_setIfInBounds_ne (out_ne hs' ho hd)
      · by_cases hji : j = i
        · subst hji; have : oj = o := Option.some.inj (hj.symm.trans ho); subst this; have : dj = d := Option.some.inj (hdj.symm.trans hd); subst this; exact ⟨x, by simp [hda], hp⟩
        · (have hl' : listed.getD j false = true := by rw [getD_set_ne false (Ne.symm hji)] at hl; exact hl); obtain ⟨y, hy, hpy⟩ := inv.val j oj dj hj hdj hl'; refine ⟨y, ?_, (φ j).mono _ _ _ hpy hb⟩; rw [Array.getElem?_setIfInBounds_ne (fun e => hji (huniq j oj hj (by rw [hdj, e])))]; exact hy
    refine hst a w K inv.out (fun j oj dj hj hdj hdep => ?_) inv.bel hgo; obtain ⟨e, he, hbe⟩ := Array.any_eq_true'.1 hdep; simp only [Bool.and_eq_true, beq_iff_eq] at hbe; have := hall e he hbe.1; rw [hbe.2] at this; exact inv.val j oj dj hj hdj this
theorem wp_region_order {id : Nat} {w0 : World} (φ : Nat → SP) (hm : P.follows .mixedOrders = true) (hB : aoB ops a0.tmps.size = true)
    (hs : ASteps P ops Q φ a0 w0 0 ops.toList) (fin : ∀ a w, AO ops φ a0 w0 (Array.replicate ops.size true) a w → Q .normal a w) : (Code.region id ops true).wp P Q a0 w0 := by
  refine wp_region_any hm (ao_any hB hs fin _ _ _ _ ⟨by simp, rfl, rfl, fun _ _ => rfl, fun i o d _ _ hl => ?_, (Below.refl _ w0).drew⟩ ?_)
  · rw [getD_rep] at hl; cases hl
  · unfold unl; rw [Array.toList_replicate, List.countP_replicate]; simp
def frm (f : Nat → Value) (isD : Nat → Bool) : Nat → List Value → List Value
  | _, [] => []
  | s, x :: l => (if isD s = true then f s else x) :: frm f isD (s + 1) l
theorem frm_get (f : Nat → Value) (isD : Nat → Bool) : ∀ (l : List Value) (k j : Nat), (frm f isD k l)[j]? = l[j]?.map fun x => if isD (k + j) = true then f (k + j) else x
  | [], k, j => by simp [frm]
  | x :: l, k, 0 => by simp [frm]
  | x :: l, k, j + 1 => by
    simp only [frm, List.getElem?_cons_succ]; rw [frm_get f isD l (k + 1) j, show k + 1 + j = k + (j + 1) by omega]
theorem ao_frame {listed : Array Bool} {a : Act} {w : World} (inv : AO ops φ a0 W listed a w) (isD : Nat → Bool) (hD : ((List.range a0.tmps.size).all fun s => isD s || outB ops s) = true) :
    a = ⟨(frm (fun s => a.tmps[s]?.getD undef) isD 0 a0.tmps.toList).toArray, a0.defers⟩ := by
  have h1 : a.tmps = (frm (fun s => a.tmps[s]?.getD undef) isD 0 a0.tmps.toList).toArray := by
    apply Array.ext_getElem?
    intro s; rw [show (frm (fun s => a.tmps[s]?.getD undef) isD 0 a0.tmps.toList).toArray[s]? = (frm (fun s => a.tmps[s]?.getD undef) isD 0 a0.tmps.toList)[s]? from by simp, frm_get]
    rcases Nat.lt_or_ge s a0.tmps.size with hs | hs
    · (have ha : s < a.tmps.size := by rw [inv.len]; exact hs); have h2 := List.all_eq_true.1 hD s (List.mem_range.2 hs); simp only [Bool.or_eq_true] at h2; simp only [Array.getElem?_toList, Array.getElem?_eq_getElem hs, Option.map_some, Nat.zero_add]
      cases hd : isD s with
      | true => simp [ha]
      | false =>
        rw [hd] at h2; have h3 := inv.out s (by simpa using h2); rw [h3, Array.getElem?_eq_getElem hs]; simp
    · (have ha : a.tmps.size ≤ s := by rw [inv.len]; exact hs); rw [Array.getElem?_eq_none ha]; simp [hs]
  have h2 := inv.defers; obtain ⟨T, D⟩ := a; simp only at h1 h2; subst h2; exact congrArg (fun x => Act.mk x _) h1
theorem ao_fin {isD : Nat → Bool} (hD : ((List.range a0.tmps.size).all fun s => isD s || outB ops s) = true)
    (h : ∀ (f : Nat → Value) (w : World), (∀ i o d, ops[i]? = some o → o.dst = some d → (φ i).p (f d) w) → Below W.heap.size W w → Q .normal ⟨(frm f isD 0 a0.tmps.toList).toArray, a0.defers⟩ w) :
    ∀ a w, AO ops φ a0 W (Array.replicate ops.size true) a w → Q .normal a w := by
  intro a w inv; rw [ao_frame inv isD hD]; refine h _ w (fun i o d ho hd => ?_) inv.bel; obtain ⟨x, hx, hp⟩ := inv.val i o d ho hd (by have := (Array.getElem?_eq_some_iff.1 ho).1; simp [this]); simp only [hx, Option.getD_some]; exact hp
theorem wanted_none {o : Oper} {a : Act} (hg : o.guard = none) : Region.wanted o (yielded ops a.tmps) = true := by unfold Region.wanted; rw [hg]
theorem wanted_bool {o oj : Oper} {a : Act} {j d : Nat} {want b : Bool} (hg : o.guard = some (j, want)) (hj : ops[j]? = some oj) (hd : oj.dst = some d) (hx : a.tmps[d]? = some (.bool b)) : Region.wanted o (yielded ops a.tmps) = (b == want) := by
  unfold Region.wanted yielded; rw [hg]; simp [hj, hd, hx]
end
open Go.RowKit
def BytesRet (l : List UInt8) (w : World) (e : Ending) (w' : World) : Prop := ∃ a cap, e = .returned (.slice a l.length cap) ∧ l.length ≤ cap ∧ Below w.heap.size w w' ∧ BytesAt w' a l
theorem ret_bytes {w : World} {B : Nat} {v : Value} {l : List UInt8} (h : w.ownsRow B 5 1 v l.length (Lib.byteCells l)) : ∃ a cap, v = .slice a l.length cap ∧ l.length ≤ cap ∧ BytesAt w a l := by
  obtain ⟨_, ⟨rfl, h0⟩ | ⟨g, cap, cur, rfl, _, hg, hn, hm, hs, ht⟩⟩ := h
  · refine ⟨none, 0, by rw [h0], by omega, ?_⟩; have : l = [] := List.eq_nil_of_length_eq_zero h0; subst this; exact ⟨by simp, .inl rfl⟩
  · refine ⟨_, _, rfl, hn, by omega, .inr ⟨g, 0, rfl, ?_, ?_⟩⟩
    · rcases Nat.lt_or_ge g w.heap.size with h' | h'
      · exact h'
      · simp [Array.getElem?_eq_none h'] at hg
    · intro i hi; (have e : (cur.toList.take (l.length * 1))[i]? = (Lib.byteCells l)[i]? := by rw [ht]); rw [List.getElem?_take, if_pos (by omega)] at e; simp only [World.cell?, hg, Nat.zero_add, Option.isSome_none, Bool.false_eq_true, if_false]; rw [← Array.getElem?_toList, e]; simp [Lib.byteCells, List.getElem?_eq_getElem hi]
theorem own_ge {w : World} {B : Nat} {v : Value} {n : Nat} {xs : List Value} (h : w.ownsRow B 5 1 v n xs) : ∀ g, v.ownBlock = some g → B ≤ g := by
  intro g hg; obtain ⟨_, ⟨rfl, _⟩ | ⟨g', cap, cur, rfl, hB, _⟩⟩ := h
  · simp [Value.ownBlock] at hg
  · simp [Value.ownBlock] at hg; omega
theorem conv_bytes {w : World} {a : Option Addr} {l : List UInt8} (h : BytesAt w a l) (cap : Nat) : (convert 93 9 (.slice a l.length cap)).run Tryz.prog w = .ok (.string ⟨l.toArray⟩) w := by
  obtain ⟨_, h3⟩ := h
  rcases h3 with rfl | ⟨b, off, rfl, _, hc⟩
  · rw [run_convert_bytes_string w _ _ _ _ _ _ Tryz.underlying93 Tryz.underlying5 Tryz.underlying9]
    cases a with
    | none => rfl
    | some a => rfl
  · exact run_convert_bytes_back w _ _ _ _ _ l Tryz.underlying93 Tryz.underlying5 Tryz.underlying9 fun j hj => by rw [Go.WideShapes.add_plain]; exact hc j hj
open Go.RowKit
def aoSB (ops : Array Oper) (ns m : Nat) (kd : Nat → Nat) : Bool :=
  (List.range ops.size).all fun i => match ops[i]? with
    | some o => (o.after.all fun e => !Region.binds .any e || decide (e.on < i)) && (if i = ns then o.dst == none else (match o.dst with
      | some d => decide (d < m) && ((List.range ops.size).all fun j => j == i || !(((ops[j]?).bind (·.dst)) == some d))
      | none => false) && (decide (kd i = 1) || (decide (kd i = 0) && match ops[ns]? with
      | some os => os.after.any fun e => Region.binds .any e && e.on == i
      | none => false)))
    | none => true
section
variable {P : Program} {ops : Array Oper} {Q : Exit → Act → World → Prop} {φ : Nat → SP} {ψ : Nat → Value → Prop} {Ω : Array Value → World → Prop} {kd : Nat → Nat} {ns : Nat} {a0 : Act} {W : World}
structure AOS (ops : Array Oper) (kd : Nat → Nat) (ns : Nat) (φ : Nat → SP) (ψ : Nat → Value → Prop) (Ω : Array Value → World → Prop) (a0 : Act) (W : World) (listed : Array Bool) (a : Act) (w : World) : Prop where
  size : listed.size = ops.size
  len : a.tmps.size = a0.tmps.size
  defers : a.defers = a0.defers
  out : ∀ s, outB ops s = true → a.tmps[s]? = a0.tmps[s]?
  val : ∀ i o d, ops[i]? = some o → o.dst = some d → listed.getD i false = true → ∃ x, a.tmps[d]? = some x ∧ ψ i x ∧ (listed.getD ns false = false → (φ i).p x w)
  bel : Below W.heap.size W w
  sto : listed.getD ns false = true → Ω a.tmps w
  wait : listed.getD ns false = true → ∀ i, i < ops.size → kd i = 0 → listed.getD i false = true
def StepN (P : Program) (ops : Array Oper) (Q : Exit → Act → World → Prop) (φ : Nat → SP) (a0 : Act) (W : World) (i : Nat) (o : Oper) : Prop := AStep P ops Q φ a0 W i o
def StepL (P : Program) (ops : Array Oper) (Q : Exit → Act → World → Prop) (φ : Nat → SP) (ψ : Nat → Value → Prop) (a0 : Act) (i : Nat) (o : Oper) : Prop :=
  ∀ (a : Act) (w : World) (K : Act → World → Prop),
    (∀ s, outB ops s = true → a.tmps[s]? = a0.tmps[s]?) →
    (∀ j oj d, ops[j]? = some oj → oj.dst = some d → (o.after.any fun e => Region.binds .any e && e.on == j) = true → ∃ x, a.tmps[d]? = some x ∧ ψ j x) →
    (∀ x, ψ i x → (∀ w', (φ i).p x w') → K (a.put o.dst x) w) →
    if Region.wanted o (yielded ops a.tmps) = true then Oper.wp P o a w K Q else K (a.put o.dst undef) w
def StepS (P : Program) (ops : Array Oper) (Q : Exit → Act → World → Prop) (φ : Nat → SP) (Ω : Array Value → World → Prop) (a0 : Act) (W : World) (o : Oper) : Prop :=
  ∀ (a : Act) (w : World) (K : Act → World → Prop),
    (∀ s, outB ops s = true → a.tmps[s]? = a0.tmps[s]?) →
    (∀ j oj d, ops[j]? = some oj → oj.dst = some d → (o.after.any fun e => Region.binds .any e && e.on == j) = true → ∃ x, a.tmps[d]? = some x ∧ (φ j).p x w) →
    Below W.heap.size W w →
    (∀ w', Ω a.tmps w' → Below W.heap.size W w' → K a w') →
    if Region.wanted o (yielded ops a.tmps) = true then Oper.wp P o a w K Q else K (a.put o.dst undef) w
def StepK (P : Program) (ops : Array Oper) (Q : Exit → Act → World → Prop) (φ : Nat → SP) (ψ : Nat → Value → Prop) (Ω : Array Value → World → Prop) (a0 : Act) (W : World) (k i : Nat) (o : Oper) : Prop :=
  match k with
  | 0 => StepN P ops Q φ a0 W i o
  | 1 => StepL P ops Q φ ψ a0 i o
  | _ => StepS P ops Q φ Ω a0 W o
def StepsK (P : Program) (ops : Array Oper) (Q : Exit → Act → World → Prop) (φ : Nat → SP) (ψ : Nat → Value → Prop) (Ω : Array Value → World → Prop) (kd : Nat → Nat) (a0 : Act) (W : World) : Nat → List Oper → Prop
  | _, [] => True
  | i, o :: l => StepK P ops Q φ ψ Ω a0 W (kd i) i o ∧ StepsK P ops Q φ ψ Ω kd a0 W (i + 1) l
theorem stepsK_get : ∀ (l : List Oper) (k : Nat), StepsK P ops Q φ ψ Ω kd a0 W k l → ∀ j o, l[j]? = some o → StepK P ops Q φ ψ Ω a0 W (kd (k + j)) (k + j) o
  | [], _, _, j, o, h => by simp at h
  | x :: l, k, hs, 0, o, h => by
    simp at h; subst h; exact hs.1
  | x :: l, k, hs, j + 1, o, h => by
    simp at h; have := stepsK_get l (k + 1) hs.2 j o h; rw [show k + (j + 1) = k + 1 + j by omega]; exact this
theorem aoSB_spec {m : Nat} (h : aoSB ops ns m kd = true) {i : Nat} {o : Oper} (ho : ops[i]? = some o) :
    (∀ e ∈ o.after, Region.binds .any e = true → e.on < i) ∧ (i = ns → o.dst = none) ∧ (i ≠ ns → (∃ d, o.dst = some d ∧ d < m ∧ ∀ j oj, ops[j]? = some oj → oj.dst = some d → j = i) ∧ (kd i = 1 ∨ (kd i = 0 ∧ ∀ os, ops[ns]? = some os → (os.after.any fun e => Region.binds .any e && e.on == i) = true))) := by
  have hi : i < ops.size := (Array.getElem?_eq_some_iff.1 ho).1; have h1 := List.all_eq_true.1 h i (List.mem_range.2 hi); simp only [ho] at h1; simp only [Bool.and_eq_true] at h1; obtain ⟨h2, h3⟩ := h1; refine ⟨fun e he hb => ?_, fun e => ?_, fun e => ?_⟩
  · have := Array.all_eq_true'.1 h2 e he
    simpa [hb] using this
  · rw [if_pos e] at h3
    simpa using h3
  · rw [if_neg e] at h3; simp only [Bool.and_eq_true, Bool.or_eq_true, decide_eq_true_eq] at h3; obtain ⟨h3, h4⟩ := h3
    constructor
    · cases hd : o.dst with
      | none => simp [hd] at h3
      | some d =>
        simp only [hd, Bool.and_eq_true, decide_eq_true_eq] at h3; refine ⟨d, rfl, h3.1, fun j oj hj hjd => ?_⟩; have h5 := List.all_eq_true.1 h3.2 j (List.mem_range.2 (Array.getElem?_eq_some_iff.1 hj).1); simp only [hj, Option.bind_some, hjd, Bool.or_eq_true, beq_iff_eq] at h5
        rcases h5 with h5 | h5
        · exact h5
        · simp at h5
    · rcases h4 with h4 | h4
      · exact .inl h4
      · refine .inr ⟨h4.1, fun os hos => ?_⟩; have := h4.2; rw [hos] at this; exact this
theorem all_listedS {listed : Array Bool} (hsz : listed.size = ops.size) {m : Nat} (hB : aoSB ops ns m kd = true) (hr : Region.ready .any ops listed = []) : ∀ i, i < ops.size → listed.getD i false = true := by
  intro i
  induction i using Nat.strongRecOn with
  | _ i ih =>
    intro hi; obtain ⟨o, ho⟩ : ∃ o, ops[i]? = some o := ⟨ops[i], Array.getElem?_eq_getElem hi⟩; have hb := (aoSB_spec hB ho).1
    cases hl : listed.getD i false with
    | true => rfl
    | false =>
      have hmem : i ∈ Region.ready .any ops listed := by
        rw [mem_ready]
        refine ⟨by
          (have : i < listed.size := by omega); simp [this] at hl ⊢
          exact hl, o, ho, fun e he hbe => ih e.on (hb e he hbe) (by have := hb e he hbe; omega)⟩
      rw [hr] at hmem
      cases hmem
def OmKept (ops : Array Oper) (ns : Nat) (kd : Nat → Nat) (Ω : Array Value → World → Prop) : Prop := ∀ i o d T x w, ops[i]? = some o → i ≠ ns → kd i = 1 → o.dst = some d → Ω T w → Ω (T.setIfInBounds d x) w
theorem ao_anyS (hns : kd ns = 2) (hψ : ∀ i x w, (φ i).p x w → ψ i x) (hΩ : OmKept ops ns kd Ω) (hB : aoSB ops ns a0.tmps.size kd = true) (hs : StepsK P ops Q φ ψ Ω kd a0 W 0 ops.toList) (fin : ∀ a w, AOS ops kd ns φ ψ Ω a0 W (Array.replicate ops.size true) a w → Q .normal a w) :
    ∀ (fuel : Nat) (listed : Array Bool) (a : Act) (w : World), AOS ops kd ns φ ψ Ω a0 W listed a w → unl listed = fuel → (ns < ops.size) → wpAny P .any ops Q fuel listed a w
  | 0, listed, a, w, inv, hf, hlt => by
    have hr : Region.ready .any ops listed = [] := by
      rw [List.eq_nil_iff_forall_not_mem]; intro i hi; have h1 := (mem_ready.1 hi).1; have := unl_set h1; omega
    have hall := all_listedS inv.size hB hr; refine ⟨hr, fin a w ⟨by simp, inv.len, inv.defers, inv.out, fun i o d ho hd _ => ?_, inv.bel, fun _ => inv.sto (hall ns hlt), fun _ j hj _ => by simp [hj]⟩⟩; obtain ⟨x, hx, hp, _⟩ := inv.val i o d ho hd (hall i (Array.getElem?_eq_some_iff.1 ho).1); exact ⟨x, hx, hp, fun e => by simp [hlt] at e⟩
  | fuel + 1, listed, a, w, inv, hf, hlt => by
    refine ⟨fun hr => ?_, fun i hi => ?_⟩
    · have hall := all_listedS inv.size hB hr; refine fin a w ⟨by simp, inv.len, inv.defers, inv.out, fun i o d ho hd _ => ?_, inv.bel, fun _ => inv.sto (hall ns hlt), fun _ j hj _ => by simp [hj]⟩; obtain ⟨x, hx, hp, _⟩ := inv.val i o d ho hd (hall i (Array.getElem?_eq_some_iff.1 ho).1); exact ⟨x, hx, hp, fun e => by simp [hlt] at e⟩
    obtain ⟨hun, o, ho, hall⟩ := mem_ready.1 hi; obtain ⟨hback, hst0, hot⟩ := aoSB_spec hB ho
    have hlf : listed.getD i false = false := by
      (have : i < listed.size := by rw [inv.size]; exact (Array.getElem?_eq_some_iff.1 ho).1); simp [this] at hun ⊢; exact hun
    refine wpOp_step ho fun K hK => ?_
    have hst : StepK P ops Q φ ψ Ω a0 W (kd i) i o := by
      have := stepsK_get ops.toList 0 hs i o (by simpa using ho)
      simpa using this
    by_cases hin : i = ns
    · rw [hin, hns] at hst; have hdn := hst0 hin; refine hst a w K inv.out (fun j oj dj hj hdj hdep => ?_) inv.bel (fun w' hom hb => hK _ _ (ao_anyS hns hψ hΩ hB hs fin fuel _ _ _ ⟨by simp [inv.size], inv.len, inv.defers, inv.out, fun j oj dj hj hdj hl => ?_, hb, fun _ => hom, fun _ j hj hk => ?_⟩ (by have := unl_set hun; omega) hlt))
      · obtain ⟨e, he, hbe⟩ := Array.any_eq_true'.1 hdep; simp only [Bool.and_eq_true, beq_iff_eq] at hbe; have := hall e he hbe.1; rw [hbe.2] at this; obtain ⟨x, hx, _, hp⟩ := inv.val j oj dj hj hdj this; exact ⟨x, hx, hp (by rw [← hin]; exact hlf)⟩
      · have hji : j ≠ i := fun e => by
          rw [e] at hj; have : oj = o := Option.some.inj (hj.symm.trans ho); rw [this, hdn] at hdj; cases hdj
        (have hl' : listed.getD j false = true := by rw [getD_set_ne false (Ne.symm hji)] at hl; exact hl); obtain ⟨x, hx, hp, _⟩ := inv.val j oj dj hj hdj hl'
        exact ⟨x, hx, hp, fun e => by
          (have : i < listed.size := by rw [inv.size, hin]; exact hlt); rw [← hin] at e
          simp [this] at e⟩
      · (have hji : j ≠ i := fun e => by rw [e, hin, hns] at hk; cases hk); rw [getD_set_ne false (Ne.symm hji)]; obtain ⟨oj, hoj⟩ : ∃ o, ops[j]? = some o := ⟨ops[j], Array.getElem?_eq_getElem hj⟩
        rcases ((aoSB_spec hB hoj).2.2 (fun e => hji (e.trans hin.symm))).2 with h1 | ⟨_, h2⟩
        · rw [hk] at h1; cases h1
        · obtain ⟨e, he, hbe⟩ := Array.any_eq_true'.1 (h2 o (by rw [← hin]; exact ho)); simp only [Bool.and_eq_true, beq_iff_eq] at hbe; have := hall e he hbe.1; rw [hbe.2] at this; exact this
    · obtain ⟨⟨d, hd, hdn, huniq⟩, hkd⟩ := hot hin
      have hgo : ∀ x w', ψ i x → ((listed.getD ns false = false → (φ i).p x w')) → Below W.heap.size W w' → (listed.getD ns false = false → Below w.heap.size w w') → (listed.getD ns false = true → w' = w ∧ kd i = 1) → K (a.put o.dst x) w' := by
        intro x w' hp1 hp hbW hb hlate; refine hK _ _ (ao_anyS hns hψ hΩ hB hs fin fuel _ _ _ ?_ (by have := unl_set hun; omega) hlt); (have hput : a.put o.dst x = { a with tmps := a.tmps.setIfInBounds d x } := by rw [hd]; rfl); rw [hput]; (have hda : d < a.tmps.size := by rw [inv.len]; exact hdn); have hnsl : (listed.setIfInBounds i true).getD ns false = listed.getD ns false := getD_set_ne false hin; refine ⟨by simp [inv.size], by simp [inv.len], inv.defers, fun s hs' => ?_, fun j oj dj hj hdj hl => ?_, hbW, fun hl => ?_, fun hl j hj hk => ?_⟩
        · rw [← inv.out s hs']; exact Array.getElem?_setIfInBounds_ne (out_ne hs' ho hd)
        · rw [hnsl]
          by_cases hji : j = i
          · subst hji; have : oj = o := Option.some.inj (hj.symm.trans ho); subst this; have : dj = d := Option.some.inj (hdj.symm.trans hd); subst this; exact ⟨x, by simp [hda], hp1, hp⟩
          · (have hl' : listed.getD j false = true := by rw [getD_set_ne false (Ne.symm hji)] at hl; exact hl); obtain ⟨y, hy, hy1, hpy⟩ := inv.val j oj dj hj hdj hl'; refine ⟨y, ?_, hy1, fun e => (φ j).mono _ _ _ (hpy e) (hb e)⟩; rw [Array.getElem?_setIfInBounds_ne (fun e => hji (huniq j oj hj (by rw [hdj, e])))]; exact hy
        · rw [hnsl] at hl; obtain ⟨rfl, hk1⟩ := hlate hl; exact hΩ i o d _ x _ ho hin hk1 hd (inv.sto hl)
        · rw [hnsl] at hl; (have hij : i < listed.size := by rw [inv.size]; exact (Array.getElem?_eq_some_iff.1 ho).1)
          by_cases hji : j = i
          · rw [hji]; simp [hij]
          · rw [getD_set_ne false (Ne.symm hji)]; exact inv.wait hl j hj hk
      rcases hkd with hk | ⟨hk, hdepS⟩
      · rw [hk] at hst; refine hst a w K inv.out (fun j oj dj hj hdj hdep => ?_) (fun x hx hp => hgo x w hx (fun _ => hp w) inv.bel (fun _ => Below.refl _ w) (fun _ => ⟨rfl, hk⟩)); obtain ⟨e, he, hbe⟩ := Array.any_eq_true'.1 hdep; simp only [Bool.and_eq_true, beq_iff_eq] at hbe; have := hall e he hbe.1; rw [hbe.2] at this; obtain ⟨y, hy, hy1, _⟩ := inv.val j oj dj hj hdj this; exact ⟨y, hy, hy1⟩
      · have hnl : listed.getD ns false = false := by
          cases hc : listed.getD ns false with
          | false => rfl
          | true => have := inv.wait hc i (Array.getElem?_eq_some_iff.1 ho).1 hk; rw [this] at hlf; cases hlf
        rw [hk] at hst; have hst' : AStep P ops Q φ a0 W i o := hst; refine hst' a w K inv.out (fun j oj dj hj hdj hdep => ?_) inv.bel (fun x w' hp hb => hgo x w' (hψ i x w' hp) (fun _ => hp) (inv.bel.trans (hb.mono inv.bel.size)) (fun _ => hb) (fun h => by rw [hnl] at h; cases h)); obtain ⟨e, he, hbe⟩ := Array.any_eq_true'.1 hdep; simp only [Bool.and_eq_true, beq_iff_eq] at hbe; have := hall e he hbe.1; rw [hbe.2] at this; obtain ⟨y, hy, _, hp⟩ := inv.val j oj dj hj hdj this; exact ⟨y, hy, hp hnl⟩
def OmS (s : Nat) (G : Value → World → Prop) (T : Array Value) (w : World) : Prop := ∃ v, T[s]? = some v ∧ G v w
theorem omS_kept (s : Nat) (G : Value → World → Prop) (h : ((List.range ops.size).all fun i => !(decide (kd i = 1)) || !(((ops[i]?).bind (·.dst)) == some s)) = true) : OmKept ops ns kd (OmS s G) := by
  rintro i o d T x w ho _ hk hd ⟨v, hv, hg⟩; have h1 := List.all_eq_true.1 h i (List.mem_range.2 (Array.getElem?_eq_some_iff.1 ho).1)
  have hne : d ≠ s := fun e => by
    subst e; simp [hk, ho, hd] at h1
  exact ⟨v, by rw [Array.getElem?_setIfInBounds_ne hne]; exact hv, hg⟩
theorem wp_region_orderS {id : Nat} {w0 : World} (ns : Nat) (kd : Nat → Nat) (φ : Nat → SP) (ψ : Nat → Value → Prop) (Ω : Array Value → World → Prop) (hψ : ∀ i x w, (φ i).p x w → ψ i x) (hΩ : OmKept ops ns kd Ω) (hm : P.follows .mixedOrders = true) (hB : (aoSB ops ns a0.tmps.size kd && decide (kd ns = 2) && decide (ns < ops.size)) = true)
    (hs : StepsK P ops Q φ ψ Ω kd a0 w0 0 ops.toList) (fin : ∀ a w, AOS ops kd ns φ ψ Ω a0 w0 (Array.replicate ops.size true) a w → Q .normal a w) : (Code.region id ops true).wp P Q a0 w0 := by
  simp only [Bool.and_eq_true, decide_eq_true_eq] at hB; obtain ⟨⟨h1, h2⟩, h3⟩ := hB; refine wp_region_any hm (ao_anyS h2 hψ hΩ h1 hs fin _ _ _ _ ⟨by simp, rfl, rfl, fun _ _ => rfl, fun i o d _ _ hl => ?_, (Below.refl _ w0).drew, fun hl => ?_, fun hl => ?_⟩ ?_ h3)
  · rw [getD_rep] at hl; cases hl
  · rw [getD_rep] at hl; cases hl
  · rw [getD_rep] at hl; cases hl
  · unfold unl; rw [Array.toList_replicate, List.countP_replicate]; simp
theorem ao_finS {isD : Nat → Bool} (hns : ns < ops.size) (hD : ((List.range a0.tmps.size).all fun s => isD s || outB ops s) = true)
    (h : ∀ (f : Nat → Value) (w : World), (∀ i o d, ops[i]? = some o → o.dst = some d → ψ i (f d)) → Ω (frm f isD 0 a0.tmps.toList).toArray w → Below W.heap.size W w → Q .normal ⟨(frm f isD 0 a0.tmps.toList).toArray, a0.defers⟩ w) :
    ∀ a w, AOS ops kd ns φ ψ Ω a0 W (Array.replicate ops.size true) a w → Q .normal a w := by
  intro a w inv; have hf := ao_frame (ops := ops) (φ := fun _ => SP.free) (a0 := a0) (W := W) (listed := Array.replicate ops.size false) (a := a) (w := w) ⟨by simp, inv.len, inv.defers, inv.out, fun i o d _ _ hl => (by rw [getD_rep] at hl; cases hl), inv.bel⟩ isD hD; have hom := inv.sto (by simp [hns]); rw [hf] at hom ⊢; refine h _ w (fun i o d ho hd => ?_) hom inv.bel; obtain ⟨x, hx, hp, _⟩ := inv.val i o d ho hd (by have := (Array.getElem?_eq_some_iff.1 ho).1; simp [this]); simp only [hx, Option.getD_some]; exact hp
end
open Go.RowKit
def waitsB (ops : Array Oper) (i j : Nat) : Bool := match ops[j]? with
  | some o => o.after.any fun e => Region.binds .any e && e.on == i
  | none => false
def aoXB (ops : Array Oper) (m : Nat) (kd : Nat → Nat) (ts : List Nat) : Bool :=
  ((List.range ops.size).all fun i => match ops[i]? with
    | some o => (o.after.all fun e => !Region.binds .any e || decide (e.on < i)) &&
       ((match o.dst with
        | some d => decide (d < m) && ((List.range ops.size).all fun j => j == i || !(((ops[j]?).bind (·.dst)) == some d))
        | none => decide (2 ≤ kd i)) &&
       (decide (kd i = 1) || ((decide (2 ≤ kd i) && (ts[kd i - 2]? == some i)) || (decide (kd i = 0) && (List.range ops.size).any fun j => (decide (kd j = 0) || ts[0]? == some j) && (decide (i < j) && waitsB ops i j)))))
    | none => true) &&
  ((List.range ts.length).all fun m => match ts[m]? with
    | some t => decide (t < ops.size) && (decide (kd t = m + 2) && (decide (m = 0) || match ts[m - 1]? with
      | some t' => waitsB ops t' t
      | none => false))
    | none => true)
section
variable {P : Program} {ops : Array Oper} {Q : Exit → Act → World → Prop} {φ : Nat → SP} {ψ : Nat → Value → Prop} {I0 C : World → Prop} {G : Nat → Value → World → Prop} {kd : Nat → Nat} {ts : List Nat} {a0 : Act} {W : World}
def JX1 (g : Value → World → Prop) (T : Array Value) (w : World) : Option Nat → Prop
  | some d => ∃ v, T[d]? = some v ∧ g v w
  | none => ∃ v, g v w
def lastD (ops : Array Oper) (ts : List Nat) (m : Nat) : Option Nat := (ts[m]?.bind fun t => ops[t]?).bind Oper.dst
def JX (ops : Array Oper) (ts : List Nat) (I0 : World → Prop) (G : Nat → Value → World → Prop) (k : Nat) (T : Array Value) (w : World) : Prop := match k with
  | 0 => I0 w
  | m + 1 => JX1 (G m) T w (lastD ops ts m)
structure AOX (ops : Array Oper) (kd : Nat → Nat) (ts : List Nat) (φ : Nat → SP) (ψ : Nat → Value → Prop) (I0 : World → Prop) (G : Nat → Value → World → Prop) (a0 : Act) (listed : Array Bool) (a : Act) (w : World) : Prop where
  size : listed.size = ops.size
  len : a.tmps.size = a0.tmps.size
  defers : a.defers = a0.defers
  out : ∀ s, outB ops s = true → a.tmps[s]? = a0.tmps[s]?
  old : ∀ i o d, ops[i]? = some o → o.dst = some d → listed.getD i false = false → a.tmps[d]? = a0.tmps[d]?
  clos : ∀ j o, ops[j]? = some o → listed.getD j false = true → ∀ e ∈ o.after, Region.binds .any e = true → listed.getD e.on false = true
  st : ∃ k, k ≤ ts.length ∧ (∀ j t, ts[j]? = some t → listed.getD t false = decide (j < k)) ∧ JX ops ts I0 G k a.tmps w ∧ ∀ i o d, ops[i]? = some o → o.dst = some d → listed.getD i false = true → ∃ x, a.tmps[d]? = some x ∧ ψ i x ∧ (k = 0 → (φ i).p x w)
def Step0 (P : Program) (ops : Array Oper) (Q : Exit → Act → World → Prop) (φ : Nat → SP) (I0 : World → Prop) (a0 : Act) (i : Nat) (o : Oper) : Prop :=
  ∀ (a : Act) (w : World) (K : Act → World → Prop),
    (∀ s, outB ops s = true → a.tmps[s]? = a0.tmps[s]?) →
    (∀ j oj d, ops[j]? = some oj → oj.dst = some d → (o.after.any fun e => Region.binds .any e && e.on == j) = true → ∃ x, a.tmps[d]? = some x ∧ (φ j).p x w) →
    I0 w →
    (∀ x w', (φ i).p x w' → Below w.heap.size w w' → K (a.put o.dst x) w') →
    if Region.wanted o (yielded ops a.tmps) = true then Oper.wp P o a w K Q else K (a.put o.dst undef) w
def Step1 (P : Program) (ops : Array Oper) (Q : Exit → Act → World → Prop) (φ : Nat → SP) (ψ : Nat → Value → Prop) (C : World → Prop) (a0 : Act) (i : Nat) (o : Oper) : Prop :=
  ∀ (a : Act) (w : World) (K : Act → World → Prop),
    (∀ s, outB ops s = true → a.tmps[s]? = a0.tmps[s]?) →
    (∀ j oj d, ops[j]? = some oj → oj.dst = some d → (o.after.any fun e => Region.binds .any e && e.on == j) = true → ∃ x, a.tmps[d]? = some x ∧ ψ j x) →
    (∀ j oj d, ops[j]? = some oj → oj.dst = some d → waitsB ops i j = true → a.tmps[d]? = a0.tmps[d]?) →
    C w →
    (∀ x, ψ i x → (∀ w', (φ i).p x w') → K (a.put o.dst x) w) →
    if Region.wanted o (yielded ops a.tmps) = true then Oper.wp P o a w K Q else K (a.put o.dst undef) w
def StepX (P : Program) (ops : Array Oper) (Q : Exit → Act → World → Prop) (ts : List Nat) (φ : Nat → SP) (ψ : Nat → Value → Prop) (I0 : World → Prop) (G : Nat → Value → World → Prop) (a0 : Act) (m i : Nat) (o : Oper) : Prop :=
  ∀ (a : Act) (w : World) (K : Act → World → Prop),
    (∀ s, outB ops s = true → a.tmps[s]? = a0.tmps[s]?) →
    (∀ j oj d, ops[j]? = some oj → oj.dst = some d → (o.after.any fun e => Region.binds .any e && e.on == j) = true → ∃ x, a.tmps[d]? = some x ∧ ψ j x ∧ (m = 0 → (φ j).p x w)) →
    JX ops ts I0 G m a.tmps w →
    (∀ x w', ψ i x → G m x w' → K (a.put o.dst x) w') →
    if Region.wanted o (yielded ops a.tmps) = true then Oper.wp P o a w K Q else K (a.put o.dst undef) w
def StepY (P : Program) (ops : Array Oper) (Q : Exit → Act → World → Prop) (ts : List Nat) (φ : Nat → SP) (ψ : Nat → Value → Prop) (I0 C : World → Prop) (G : Nat → Value → World → Prop) (a0 : Act) (k i : Nat) (o : Oper) : Prop :=
  match k with
  | 0 => Step0 P ops Q φ I0 a0 i o
  | 1 => Step1 P ops Q φ ψ C a0 i o
  | m + 2 => StepX P ops Q ts φ ψ I0 G a0 m i o
def StepsX (P : Program) (ops : Array Oper) (Q : Exit → Act → World → Prop) (ts : List Nat) (φ : Nat → SP) (ψ : Nat → Value → Prop) (I0 C : World → Prop) (G : Nat → Value → World → Prop) (kd : Nat → Nat) (a0 : Act) : Nat → List Oper → Prop
  | _, [] => True
  | i, o :: l => StepY P ops Q ts φ ψ I0 C G a0 (kd i) i o ∧ StepsX P ops Q ts φ ψ I0 C G kd a0 (i + 1) l
theorem stepsX_get : ∀ (l : List Oper) (k : Nat), StepsX P ops Q ts φ ψ I0 C G kd a0 k l → ∀ j o, l[j]? = some o → StepY P ops Q ts φ ψ I0 C G a0 (kd (k + j)) (k + j) o
  | [], _, _, j, o, h => by simp at h
  | x :: l, k, hs, 0, o, h => by
    simp at h; subst h; exact hs.1
  | x :: l, k, hs, j + 1, o, h => by
    simp at h; have := stepsX_get l (k + 1) hs.2 j o h; rw [show k + (j + 1) = k + 1 + j by omega]; exact this
theorem waitsB_spec {i j : Nat} (h : waitsB ops i j = true) : ∃ o e, ops[j]? = some o ∧ e ∈ o.after ∧ Region.binds .any e = true ∧ e.on = i := by
  unfold waitsB at h
  cases ho : ops[j]? with
  | none => rw [ho] at h; cases h
  | some o =>
    rw [ho] at h; obtain ⟨e, he, hb⟩ := Array.any_eq_true'.1 h; simp only [Bool.and_eq_true, beq_iff_eq] at hb; exact ⟨o, e, rfl, he, hb.1, hb.2⟩
structure XB (ops : Array Oper) (m : Nat) (kd : Nat → Nat) (ts : List Nat) : Prop where
  back : ∀ (i : Nat) (o : Oper), ops[i]? = some o → ∀ e ∈ o.after, Region.binds .any e = true → e.on < i
  slot : ∀ (i : Nat) (o : Oper) (d : Nat), ops[i]? = some o → o.dst = some d → d < m ∧ ∀ (j : Nat) (oj : Oper), ops[j]? = some oj → oj.dst = some d → j = i
  none2 : ∀ (i : Nat) (o : Oper), ops[i]? = some o → o.dst = none → 2 ≤ kd i
  kind : ∀ i, i < ops.size → kd i = 1 ∨ (2 ≤ kd i ∧ ts[kd i - 2]? = some i) ∨ (kd i = 0 ∧ ∃ j, j < ops.size ∧ (kd j = 0 ∨ ts[0]? = some j) ∧ i < j ∧ waitsB ops i j = true)
  tsl : ∀ m t, ts[m]? = some t → t < ops.size ∧ kd t = m + 2 ∧ (m = 0 ∨ ∃ t', ts[m - 1]? = some t' ∧ waitsB ops t' t = true)
theorem aoXB_spec {m : Nat} (h : aoXB ops m kd ts = true) : XB ops m kd ts := by
  simp only [aoXB, Bool.and_eq_true] at h; obtain ⟨hA, hB⟩ := h
  have h1 : ∀ i o, ops[i]? = some o → _ := fun i o ho => by
    have := List.all_eq_true.1 hA i (List.mem_range.2 (Array.getElem?_eq_some_iff.1 ho).1); simp only [ho, Bool.and_eq_true] at this; exact this
  refine ⟨fun i o ho e he hb => ?_, fun i o d ho hd => ?_, fun i o ho hd => ?_, fun i hi => ?_, fun m t ht => ?_⟩
  · have := Array.all_eq_true'.1 (h1 i o ho).1 e he
    simpa [hb] using this
  · have h3 := (h1 i o ho).2.1; simp only [hd, Bool.and_eq_true, decide_eq_true_eq] at h3; refine ⟨h3.1, fun j oj hj hjd => ?_⟩; have h5 := List.all_eq_true.1 h3.2 j (List.mem_range.2 (Array.getElem?_eq_some_iff.1 hj).1); simp only [hj, Option.bind_some, hjd, Bool.or_eq_true, beq_iff_eq] at h5
    rcases h5 with h5 | h5
    · exact h5
    · simp at h5
  · have h3 := (h1 i o ho).2.1
    simpa [hd] using h3
  · have h3 := (h1 i _ (Array.getElem?_eq_getElem hi)).2.2; simp only [Bool.or_eq_true, Bool.and_eq_true, decide_eq_true_eq, beq_iff_eq, List.any_eq_true, List.mem_range] at h3
    rcases h3 with h3 | h3 | ⟨h3, j, hj, h4, h5, h6⟩
    · exact .inl h3
    · exact .inr (.inl h3)
    · exact .inr (.inr ⟨h3, j, hj, h4, h5, h6⟩)
  · have hm : m < ts.length := (List.getElem?_eq_some_iff.1 ht).1; have h3 := List.all_eq_true.1 hB m (List.mem_range.2 hm); simp only [ht, Bool.and_eq_true, decide_eq_true_eq, Bool.or_eq_true] at h3; refine ⟨h3.1, h3.2.1, ?_⟩
    rcases h3.2.2 with h4 | h4
    · exact .inl h4
    · cases h5 : ts[m - 1]? with
      | none => rw [h5] at h4; cases h4
      | some t' => rw [h5] at h4; exact .inr ⟨t', rfl, h4⟩
theorem all_listedX {listed : Array Bool} (hsz : listed.size = ops.size) {m : Nat} (hB : XB ops m kd ts) (hr : Region.ready .any ops listed = []) : ∀ i, i < ops.size → listed.getD i false = true := by
  intro i
  induction i using Nat.strongRecOn with
  | _ i ih =>
    intro hi; obtain ⟨o, ho⟩ : ∃ o, ops[i]? = some o := ⟨ops[i], Array.getElem?_eq_getElem hi⟩; have hb := hB.back i o ho
    cases hl : listed.getD i false with
    | true => rfl
    | false =>
      have hmem : i ∈ Region.ready .any ops listed := by
        rw [mem_ready]
        refine ⟨by
          (have : i < listed.size := by omega); simp [this] at hl ⊢
          exact hl, o, ho, fun e he hbe => ih e.on (hb e he hbe) (by have := hb e he hbe; omega)⟩
      rw [hr] at hmem
      cases hmem
theorem ahead_listed {listed : Array Bool} {m t : Nat} (hB : XB ops m kd ts) (ht : ts[0]? = some t) (hl : listed.getD t false = true)
    (hc : ∀ j o, ops[j]? = some o → listed.getD j false = true → ∀ e ∈ o.after, Region.binds .any e = true → listed.getD e.on false = true) : ∀ n i, ops.size - i ≤ n → i < ops.size → kd i = 0 → listed.getD i false = true
  | 0, i, hn, hi, _ => by omega
  | n + 1, i, hn, hi, hk => by
    rcases hB.kind i hi with h | ⟨h, _⟩ | ⟨_, j, hj, h2, h3, h4⟩
    · omega
    · omega
    · have hjl : listed.getD j false = true := by
        rcases h2 with h2 | h2
        · exact ahead_listed hB ht hl hc n j (by omega) hj h2
        · rw [ht] at h2; injection h2 with h2; rw [← h2]; exact hl
      obtain ⟨o, e, ho, he, hb, hon⟩ := waitsB_spec h4; have := hc j o ho hjl e he hb; rw [hon] at this; exact this
theorem jx_keep {k i d m : Nat} {o : Oper} {T : Array Value} {x : Value} {w : World} (hB : XB ops m kd ts) (ho : ops[i]? = some o) (hd : o.dst = some d) (hn : kd i < 2) (h : JX ops ts I0 G k T w) : JX ops ts I0 G k (T.setIfInBounds d x) w := by
  cases k with
  | zero => exact h
  | succ k =>
    replace h : JX1 (G k) T w (lastD ops ts k) := h; show JX1 (G k) (T.setIfInBounds d x) w (lastD ops ts k)
    cases hl : lastD ops ts k with
    | none => rw [hl] at h; exact h
    | some dt =>
      rw [hl] at h; obtain ⟨v, hv, hg⟩ := h; refine ⟨v, ?_, hg⟩; rw [Array.getElem?_setIfInBounds_ne ?_]
      · exact hv
      · intro e; subst e; unfold lastD at hl
        cases ht : ts[k]? with
        | none => rw [ht] at hl; cases hl
        | some t =>
          rw [ht] at hl; simp only [Option.bind_some] at hl
          cases hot : ops[t]? with
          | none => rw [hot] at hl; cases hl
          | some ot =>
            rw [hot] at hl; simp only [Option.bind_some] at hl; have := (hB.slot t ot d hot hl).2 i o ho hd; have h2 := (hB.tsl k t ht).2.1; rw [← this] at h2; omega
theorem ao_anyX (hC : ∀ k T w, JX ops ts I0 G k T w → C w) (hI : ∀ w w', I0 w → Below w.heap.size w w' → I0 w') (hψ : ∀ i x w, (φ i).p x w → ψ i x) (hB : XB ops a0.tmps.size kd ts) (hs : StepsX P ops Q ts φ ψ I0 C G kd a0 0 ops.toList) (fin : ∀ a w, AOX ops kd ts φ ψ I0 G a0 (Array.replicate ops.size true) a w → Q .normal a w) :
    ∀ (fuel : Nat) (listed : Array Bool) (a : Act) (w : World), AOX ops kd ts φ ψ I0 G a0 listed a w → unl listed = fuel → wpAny P .any ops Q fuel listed a w := by
  have done : ∀ (listed : Array Bool) (a : Act) (w : World), AOX ops kd ts φ ψ I0 G a0 listed a w → Region.ready .any ops listed = [] → Q .normal a w := by
    intro listed a w inv hr; have hall := all_listedX inv.size hB hr; obtain ⟨k, hk, hts, hJ, hv⟩ := inv.st; (have hj0 : ∀ j, j < ops.size → (Array.replicate ops.size true).getD j false = true := fun j hj => by simp [hj]); refine fin a w ⟨by simp, inv.len, inv.defers, inv.out, fun i o d ho hd hl => (by rw [hj0 i (Array.getElem?_eq_some_iff.1 ho).1] at hl; cases hl), fun j o ho _ e he hb => hj0 _ (by have := hB.back j o ho e he hb; have := (Array.getElem?_eq_some_iff.1 ho).1; omega), k, hk, fun j t ht => ?_, hJ, fun i o d ho hd _ => hv i o d ho hd (hall i (Array.getElem?_eq_some_iff.1 ho).1)⟩; have h1 := hts j t ht; have h2 := (hB.tsl j t ht).1; rw [hall t h2] at h1; rw [hj0 t h2, h1]
  intro fuel
  induction fuel with
  | zero =>
    intro listed a w inv hf
    have hr : Region.ready .any ops listed = [] := by
      rw [List.eq_nil_iff_forall_not_mem]; intro i hi; have h1 := (mem_ready.1 hi).1; have := unl_set h1; omega
    exact ⟨hr, done listed a w inv hr⟩
  | succ fuel ih =>
    intro listed a w inv hf; refine ⟨fun hr => done listed a w inv hr, fun i hi => ?_⟩; obtain ⟨hun, o, ho, hall⟩ := mem_ready.1 hi; have hio : i < ops.size := (Array.getElem?_eq_some_iff.1 ho).1; (have hil : i < listed.size := by rw [inv.size]; exact hio)
    have hlf : listed.getD i false = false := by
      simp [hil] at hun ⊢; exact hun
    obtain ⟨k, hk, hts, hJ, hv⟩ := inv.st; refine wpOp_step ho fun K hK => ?_
    have hst : StepY P ops Q ts φ ψ I0 C G a0 (kd i) i o := by
      have := stepsX_get ops.toList 0 hs i o (by simpa using ho)
      simpa using this
    (have hset : ∀ j, (listed.setIfInBounds i true).getD j false = true → j ≠ i → listed.getD j false = true := fun j hl hji => by rw [getD_set_ne false (Ne.symm hji)] at hl; exact hl); (have hseti : (listed.setIfInBounds i true).getD i false = true := by simp [hil])
    have hclos : ∀ j oj, ops[j]? = some oj → (listed.setIfInBounds i true).getD j false = true → ∀ e ∈ oj.after, Region.binds .any e = true → (listed.setIfInBounds i true).getD e.on false = true := by
      intro j oj hoj hl e he hb
      have hin : listed.getD e.on false = true := by
        by_cases hji : j = i
        · subst hji; have : oj = o := Option.some.inj (hoj.symm.trans ho); subst this; exact hall e he hb
        · exact inv.clos j oj hoj (hset j hl hji) e he hb
      by_cases hei : e.on = i
      · rw [hei]; exact hseti
      · rw [getD_set_ne false (Ne.symm hei)]; exact hin
    have hdeps : ∀ j oj d, ops[j]? = some oj → oj.dst = some d → (o.after.any fun e => Region.binds .any e && e.on == j) = true → ∃ x, a.tmps[d]? = some x ∧ ψ j x ∧ (k = 0 → (φ j).p x w) := by
      intro j oj d hj hd hdep; obtain ⟨e, he, hbe⟩ := Array.any_eq_true'.1 hdep; simp only [Bool.and_eq_true, beq_iff_eq] at hbe; have := hall e he hbe.1; rw [hbe.2] at this; exact hv j oj d hj hd this
    have hplain : kd i < 2 → ∀ x w', ψ i x → (k = 0 → (φ i).p x w') → (k = 0 → Below w.heap.size w w') → (k ≠ 0 → w' = w) → K (a.put o.dst x) w' := by
      intro hk2 x w' hp1 hp hb hlate
      obtain ⟨d, hd⟩ : ∃ d, o.dst = some d := by
        cases hd : o.dst with
        | some d => exact ⟨d, rfl⟩
        | none => have := hB.none2 i o ho hd; omega
      obtain ⟨hdn, huniq⟩ := hB.slot i o d ho hd; refine hK _ _ (ih _ _ _ ?_ (by have := unl_set hun; omega)); (have hput : a.put o.dst x = { a with tmps := a.tmps.setIfInBounds d x } := by rw [hd]; rfl); rw [hput]; (have hda : d < a.tmps.size := by rw [inv.len]; exact hdn); refine ⟨by simp [inv.size], by simp [inv.len], inv.defers, fun s hs' => ?_, fun j oj dj hj hdj hl => ?_, hclos, k, hk, fun j t ht => ?_, ?_, fun j oj dj hj hdj hl => ?_⟩
      · rw [← inv.out s hs']; exact Array.getElem?_setIfInBounds_ne (out_ne hs' ho hd)
      · (have hji : j ≠ i := fun e => by rw [e, hseti] at hl; cases hl); rw [Array.getElem?_setIfInBounds_ne (fun e => hji (huniq j oj hj (by rw [hdj, e])))]; exact inv.old j oj dj hj hdj (by rw [getD_set_ne false (Ne.symm hji)] at hl; exact hl)
      · (have : t ≠ i := fun e => by have := (hB.tsl j t ht).2.1; rw [e] at this; omega); rw [getD_set_ne false (Ne.symm this)]; exact hts j t ht
      · have : JX ops ts I0 G k a.tmps w' := by
          by_cases h0 : k = 0
          · subst h0; exact hI w w' hJ (hb rfl)
          · rw [hlate h0]; exact hJ
        exact jx_keep hB ho hd hk2 this
      · by_cases hji : j = i
        · subst hji; have : oj = o := Option.some.inj (hj.symm.trans ho); subst this; have : dj = d := Option.some.inj (hdj.symm.trans hd); subst this; exact ⟨x, by simp [hda], hp1, hp⟩
        · obtain ⟨y, hy, hy1, hpy⟩ := hv j oj dj hj hdj (hset j hl hji); refine ⟨y, ?_, hy1, fun e => (φ j).mono _ _ _ (hpy e) (hb e)⟩; rw [Array.getElem?_setIfInBounds_ne (fun e => hji (huniq j oj hj (by rw [hdj, e])))]; exact hy
    rcases hB.kind i hio with h1 | ⟨h2, hti⟩ | ⟨h0, _⟩
    · rw [h1] at hst; have hst' : Step1 P ops Q φ ψ C a0 i o := hst
      refine hst' a w K inv.out (fun j oj d hj hd hdep => ?_) (fun j oj d hj hd hw => inv.old j oj d hj hd (by
        cases hl : listed.getD j false with
        | false => rfl
        | true =>
          obtain ⟨o', e, ho', he, hb, hon⟩ := waitsB_spec hw; have h1 := inv.clos j o' ho' hl e he hb; rw [hon, hlf] at h1
          cases h1)) (hC k a.tmps w hJ) (fun x hx hp => hplain (by omega) x w hx (fun _ => hp w) (fun _ => Below.refl _ w) (fun _ => rfl))
      obtain ⟨x, hx, hx1, _⟩ := hdeps j oj d hj hd hdep; exact ⟨x, hx, hx1⟩
    · obtain ⟨m, hm⟩ : ∃ m, kd i = m + 2 := ⟨kd i - 2, by omega⟩; rw [hm, Nat.add_sub_cancel] at hti
      have hkm : k = m := by
        have h3 := hts m i hti; rw [hlf] at h3; (have h3 : ¬ m < k := by simpa using h3.symm)
        rcases (hB.tsl m i hti).2.2 with h4 | ⟨t', ht', hw⟩
        · omega
        · obtain ⟨o', e, ho', he, hb, hon⟩ := waitsB_spec hw; have : o' = o := Option.some.inj (ho'.symm.trans ho); subst this; have h5 := hall e he hb; rw [hon, hts (m - 1) t' ht'] at h5; (have h5 : m - 1 < k := by simpa using h5); omega
      subst hkm; rw [hm] at hst; have hst' : StepX P ops Q ts φ ψ I0 G a0 k i o := hst; refine hst' a w K inv.out hdeps hJ (fun x w' hx hg => hK _ _ (ih _ _ _ ?_ (by have := unl_set hun; omega))); have hklt : k < ts.length := (List.getElem?_eq_some_iff.1 hti).1
      have htsn : ∀ j t, ts[j]? = some t → (listed.setIfInBounds i true).getD t false = decide (j < k + 1) := by
        intro j t ht
        by_cases hjk : j = k
        · subst hjk; rw [hti] at ht; injection ht with ht; rw [← ht, hseti]; simp
        · have : t ≠ i := fun e => by
            have := (hB.tsl j t ht).2.1; rw [e, hm] at this; omega
          rw [getD_set_ne false (Ne.symm this), hts j t ht]
          simp; omega
      cases hd : o.dst with
      | none =>
        refine ⟨by simp [inv.size], inv.len, inv.defers, inv.out, fun j oj dj hj hdj hl => (inv.old j oj dj hj hdj (by have hji : j ≠ i := (fun e => by rw [e, hseti] at hl; cases hl); rw [getD_set_ne false (Ne.symm hji)] at hl; exact hl)), hclos, k + 1, hklt, htsn, ?_, fun j oj dj hj hdj hl => ?_⟩
        · show JX ops ts I0 G (k + 1) a.tmps w'; (have hl : lastD ops ts k = none := by unfold lastD; rw [hti]; simp only [Option.bind_some, ho, hd]); show JX1 (G k) a.tmps w' (lastD ops ts k); rw [hl]; exact ⟨x, hg⟩
        · have hji : j ≠ i := fun e => by
            rw [e] at hj; have : oj = o := Option.some.inj (hj.symm.trans ho); rw [this, hd] at hdj; cases hdj
          obtain ⟨y, hy, hy1, _⟩ := hv j oj dj hj hdj (hset j hl hji); exact ⟨y, hy, hy1, fun e => by omega⟩
      | some d =>
        obtain ⟨hdn, huniq⟩ := hB.slot i o d ho hd; (have hda : d < a.tmps.size := by rw [inv.len]; exact hdn); show AOX ops kd ts φ ψ I0 G a0 _ { a with tmps := a.tmps.setIfInBounds d x } w'; refine ⟨by simp [inv.size], by simp [inv.len], inv.defers, fun s hs' => ?_, fun j oj dj hj hdj hl => ?_, hclos, k + 1, hklt, htsn, ?_, fun j oj dj hj hdj hl => ?_⟩
        · rw [← inv.out s hs']; exact Array.getElem?_setIfInBounds_ne (out_ne hs' ho hd)
        · (have hji : j ≠ i := fun e => by rw [e, hseti] at hl; cases hl); rw [Array.getElem?_setIfInBounds_ne (fun e => hji (huniq j oj hj (by rw [hdj, e])))]; exact inv.old j oj dj hj hdj (by rw [getD_set_ne false (Ne.symm hji)] at hl; exact hl)
        · show JX ops ts I0 G (k + 1) (a.tmps.setIfInBounds d x) w'; (have hl : lastD ops ts k = some d := by unfold lastD; rw [hti]; simp only [Option.bind_some, ho, hd]); show JX1 (G k) _ w' (lastD ops ts k); rw [hl]; exact ⟨x, by simp [hda], hg⟩
        · by_cases hji : j = i
          · subst hji; have : oj = o := Option.some.inj (hj.symm.trans ho); subst this; have : dj = d := Option.some.inj (hdj.symm.trans hd); subst this; exact ⟨x, by simp [hda], hx, fun e => by omega⟩
          · obtain ⟨y, hy, hy1, _⟩ := hv j oj dj hj hdj (hset j hl hji); refine ⟨y, ?_, hy1, fun e => by omega⟩; rw [Array.getElem?_setIfInBounds_ne (fun e => hji (huniq j oj hj (by rw [hdj, e])))]; exact hy
    · have hk0 : k = 0 := by
        rcases Nat.eq_zero_or_pos k with h | h
        · exact h
        · exfalso
          obtain ⟨t, ht⟩ : ∃ t, ts[0]? = some t := ⟨ts[0]'(by omega), List.getElem?_eq_getElem (by omega)⟩; have hl := hts 0 t ht; rw [decide_eq_true h] at hl; have := ahead_listed hB ht hl inv.clos ops.size i (by omega) hio h0; rw [this] at hlf; cases hlf
      subst hk0; rw [h0] at hst; have hst' : Step0 P ops Q φ I0 a0 i o := hst; refine hst' a w K inv.out (fun j oj d hj hd hdep => ?_) hJ (fun x w' hp hb => hplain (by omega) x w' (hψ i x w' hp) (fun _ => hp) (fun _ => hb) (fun h => absurd rfl h)); obtain ⟨x, hx, _, hx2⟩ := hdeps j oj d hj hd hdep; exact ⟨x, hx, hx2 rfl⟩
theorem wp_region_orderX {id : Nat} {w0 : World} (ts : List Nat) (kd : Nat → Nat) (φ : Nat → SP) (ψ : Nat → Value → Prop) (I0 C : World → Prop) (G : Nat → Value → World → Prop) (h0 : I0 w0.drew) (hC0 : ∀ w, I0 w → C w) (hCG : ∀ m v w, G m v w → C w) (hI : ∀ w w', I0 w → Below w.heap.size w w' → I0 w') (hψ : ∀ i x w, (φ i).p x w → ψ i x) (hm : P.follows .mixedOrders = true) (hB : aoXB ops a0.tmps.size kd ts = true)
    (hs : StepsX P ops Q ts φ ψ I0 C G kd a0 0 ops.toList) (fin : ∀ a w, AOX ops kd ts φ ψ I0 G a0 (Array.replicate ops.size true) a w → Q .normal a w) : (Code.region id ops true).wp P Q a0 w0 := by
  refine wp_region_any hm (ao_anyX (C := C) (fun k T w h => ?_) hI hψ (aoXB_spec hB) hs fin _ _ _ _ ⟨by simp, rfl, rfl, fun _ _ => rfl, fun _ _ _ _ _ _ => rfl, fun j o _ hl => ?_, 0, Nat.zero_le _, fun j t _ => ?_, h0, fun i o d _ _ hl => ?_⟩ ?_)
  · cases k with
    | zero => exact hC0 w h
    | succ k =>
      replace h : JX1 (G k) T w (lastD ops ts k) := h
      cases hl : lastD ops ts k with
      | some d => rw [hl] at h; obtain ⟨v, _, h⟩ := h; exact hCG _ _ _ h
      | none => rw [hl] at h; obtain ⟨v, h⟩ := h; exact hCG _ _ _ h
  · rw [getD_rep] at hl; cases hl
  · rw [getD_rep]; simp
  · rw [getD_rep] at hl; cases hl
  · unfold unl; rw [Array.toList_replicate, List.countP_replicate]; simp
theorem ao_finX {isD : Nat → Bool} (n : Nat) (ld : Option Nat) (hts : ts.length = n + 1) (hlast : lastD ops ts n = ld) (htl : (List.range ts.length).all (fun m => match ts[m]? with | some t => decide (t < ops.size) | none => false) = true) (hD : ((List.range a0.tmps.size).all fun s => isD s || outB ops s) = true)
    (h : ∀ (f : Nat → Value) (w : World), (∀ i o d, ops[i]? = some o → o.dst = some d → ψ i (f d)) → (∀ d, ld = some d → G n (f d) w) → (ld = none → ∃ v, G n v w) → Q .normal ⟨(frm f isD 0 a0.tmps.toList).toArray, a0.defers⟩ w) :
    ∀ a w, AOX ops kd ts φ ψ I0 G a0 (Array.replicate ops.size true) a w → Q .normal a w := by
  intro a w inv; have hf := ao_frame (ops := ops) (φ := fun _ => SP.free) (a0 := a0) (W := w) (listed := Array.replicate ops.size false) (a := a) (w := w) ⟨by simp, inv.len, inv.defers, inv.out, fun i o d _ _ hl => (by rw [getD_rep] at hl; cases hl), Below.refl _ _⟩ isD hD; obtain ⟨k, hk, ht, hJ, hv⟩ := inv.st
  have hkn : k = n + 1 := by
    rcases Nat.lt_or_ge n k with h1 | h1
    · omega
    · exfalso
      have h2 := List.all_eq_true.1 htl n (List.mem_range.2 (by omega))
      cases h3 : ts[n]? with
      | none => rw [h3] at h2; cases h2
      | some t =>
        rw [h3] at h2; have h4 := ht n t h3; simp only [decide_eq_true_eq] at h2; simp [h2] at h4; omega
  subst hkn; replace hJ : JX1 (G n) a.tmps w (lastD ops ts n) := hJ; rw [hlast] at hJ; rw [hf]; refine h _ w (fun i o d ho hd => ?_) (fun d hd => ?_) (fun hd => ?_)
  · obtain ⟨x, hx, hp, _⟩ := hv i o d ho hd (by have := (Array.getElem?_eq_some_iff.1 ho).1; simp [this]); simp only [hx, Option.getD_some]; exact hp
  · rw [hd] at hJ; obtain ⟨v, hv, hg⟩ := hJ; simp only [hv, Option.getD_some]; exact hg
  · rw [hd] at hJ; exact hJ
def pv (l : List (Option Value)) (i : Nat) (x : Value) : Prop := match l[i]? with
  | some (some v) => x = v
  | _ => True
end
open Go.RowKit
def anyB (l : List UInt8) (k : Nat) : Bool := l.any fun c => decide (c.toNat = k)
def idxInvB (l : List UInt8) (k : Nat) (w : World) (y : Value) (wr : World) : Prop := ∃ i : Nat, i ≤ l.length ∧ y = .int .i64 i ∧ anyB (l.take i) k = false ∧ Below w.heap.size w wr
def IdxPostB (q : Bool) (w : World) (e : Ending) (w' : World) : Prop := ∃ x : Int, decide (0 ≤ x) = q ∧ e = .returned (.int .i64 x) ∧ Below w.heap.size w w'
set_option maxHeartbeats 2000000 in
theorem indexB_any (l : List UInt8) (k : Nat) (a : Option Addr) (cap : Nat) (w : World) (hl : l.length ≤ 1000) (h : BytesAt w a l) :
    Calls Tryz.prog 133 #[.slice a l.length cap, .int .u8 k] w (IdxPostB (anyB l k) w) := by
  have HR := Lib.hid h; clear h; go_enter Tryz.func133, Tryz.ntmps133; go_wp2
  go_loopw [8] (fun y wr => idxInvB l k w y wr) (fun y _ => l.length - (intOf y).toNat)
  case atStart => exact ⟨0, Nat.zero_le _, rfl, by simp [anyB], Below.refl _ _⟩
  case round =>
    obtain ⟨i, hi, rfl, hmay, hb⟩ := hrel; have HY := Lib.hid hmay; clear hmay
    by_cases hlt : i < l.length
    · obtain ⟨b, off, hab, hblt, hc⟩ : ∃ b off, a = some ⟨b, off, none⟩ ∧ b < w.heap.size ∧ ∀ i (h : i < l.length), w.cell? ⟨b, off + i, none⟩ = some (.int .u8 l[i].toNat) := by
        rcases HR.out.2 with h | h
        · subst h; simp at hlt
        · exact h
      subst hab; (have hcell : wr.cell? ⟨b, off + i, none⟩ = some (.int .u8 l[i].toNat) := by rw [hb.cell (p := ⟨b, off + i, none⟩) hblt]; exact hc i hlt); clear hc
      have htk : anyB (l.take (i + 1)) k = (anyB (l.take i) k || decide (l[i].toNat = k)) := by
        unfold anyB; rw [List.take_succ_eq_append_getElem hlt, List.any_append]; simp
      have hyes : l[i].toNat = k → anyB l k = true := fun h => by
        unfold anyB; rw [List.any_eq_true]; exact ⟨l[i], List.getElem_mem hlt, by simpa using h⟩
      generalize l[i].toNat = c at *; have T1 := Lib.hid htk; have T2 := Lib.hid hyes; clear htk hyes; (have q1 : (i : Int) < (l.length : Int) := by omega)
      by_cases hck : c = k
      · (have d1 : ((k : Int) == (c : Int)) = true := by simp [hck]); go_wp2; go_ret; exact ⟨i, by rw [T2.out hck]; simp, rfl, hb⟩
      · (have d1 : ((k : Int) == (c : Int)) = false := by simp; omega); go_wp2; exact ⟨⟨i + 1, by omega, by go_num, by rw [T1.out, HY.out]; simp [hck], hb⟩, by simp [intOf]; omega⟩
    · have he : l.take i = l := List.take_of_length_le (by omega); rw [he] at HY; go_wp2; go_ret; exact ⟨-1, by rw [HY.out]; rfl, rfl, hb⟩
theorem containsB_any (l : List UInt8) (k : Nat) (a : Option Addr) (cap : Nat) (w : World) (hl : l.length ≤ 1000) (h : BytesAt w a l) :
    Calls Tryz.prog 116 #[.slice a l.length cap, .int .u8 k] w fun e w' => e = .returned (.bool (anyB l k)) ∧ Below w.heap.size w w' := by
  have K := Lib.hid (indexB_any l k a cap w hl h); clear h; generalize anyB l k = q at *; go_enter Tryz.func116, Tryz.ntmps116; go_wp2_with fail; refine K.out.mono ?_; rintro e w1 ⟨x, hx, rfl, hb⟩; have HX := Lib.hid hx; clear hx; go_wp2; go_ret; exact ⟨by rw [← HX.out]; rfl, hb⟩
open Go.RowKit
def digB (r : Int) : Bool := decide (48 ≤ r ∧ r ≤ 57)
set_option maxHeartbeats 400000 in
theorem isDigit_any (r : Int) (w : World) :
    Calls Tryz.prog 170 #[.int .i32 r] w fun e w' => e = .returned (.bool (digB r)) ∧ w = w' := by
  by_cases h : 48 ≤ r
  · by_cases h2 : r ≤ 57
    · (have e : digB r = true := by simp [digB]; omega); rw [e]; clear e; go_enter Tryz.func170, Tryz.ntmps170; go_wp2; go_ret; exact ⟨rfl, rfl⟩
    · (have e : digB r = false := by simp [digB]; omega); rw [e]; clear e; go_enter Tryz.func170, Tryz.ntmps170; go_wp2; go_ret; exact ⟨rfl, rfl⟩
  · (have e : digB r = false := by simp [digB]; omega); rw [e]; clear e; go_enter Tryz.func170, Tryz.ntmps170; go_wp2; go_ret; exact ⟨rfl, rfl⟩
theorem bget (s : ByteArray) (j : Nat) (_h : j < s.size) (h' : j < s.data.toList.length) : s.data.toList[j] = s[j] := rfl
end Go.Proofs.YthgghaaddankoaaGreatDoor
