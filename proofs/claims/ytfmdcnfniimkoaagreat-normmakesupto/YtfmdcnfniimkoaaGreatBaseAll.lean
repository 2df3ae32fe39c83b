/- Lemmas of mine, merged: Base, AnyOrd, BytesT, OwnT, NumNameA. -/
import Derived.WalkKit
import Derived.WalkSpells
import Derived.WalkLawsBesides
import Derived.Lib.OthersKept
import Derived.Lib.Hide
import Derived.Test.YtfmdcnfniimkoaaGreatRows
import Derived.RegionTactic
import Derived.Below
import Derived.OwnWalk
import Derived.Laws.BytesString
import Derived.Laws.IdiomStrings
/- What every text of mine imports. -/
/- A region that draws its order: what is known of each operation's value, WHATEVER THE ORDER: each operation is run once. No program. -/
namespace Go.Proofs.YtfmdcnfniimkoaaGreat
open Go.RowKit
/-- A property of a value that stays when blocks are laid. -/
structure SP where
  p : Value → World → Prop
  mono : ∀ x w w', p x w → Below w.heap.size w w' → p x w'
def SP.eq (v : Value) : SP := ⟨fun x _ => x = v, fun _ _ _ h _ => h⟩
def SP.imp (b : Bool) (v : Value) : SP := ⟨fun x _ => b = true → x = v, fun _ _ _ h _ => h⟩
def SP.free : SP := ⟨fun _ _ => True, fun _ _ _ h _ => h⟩
def SP.cond (b : Bool) (s : SP) : SP := ⟨fun x w => b = true → s.p x w, fun x w w' h hb hc => s.mono x w w' (h hc) hb⟩
/-- Edges lead back; each operation has a slot of its own, which lies in the frame. -/
def aoB (ops : Array Oper) (n : Nat) : Bool :=
  (List.range ops.size).all fun i => match ops[i]? with
    | some o => (o.after.all fun e => decide (e.on < i)) && (match o.dst with
      | some d => decide (d < n) && ((List.range ops.size).all fun j => j == i || !(((ops[j]?).bind (·.dst)) == some d))
      | none => false)
    | none => true
/-- No operation's slot. -/
def outB (ops : Array Oper) (s : Nat) : Bool := (List.range ops.size).all fun j => !(((ops[j]?).bind (·.dst)) == some s)
section
variable {P : Program} {ops : Array Oper} {Q : Exit → Act → World → Prop} {φ : Nat → SP} {a0 : Act} {W : World}
structure AO (ops : Array Oper) (φ : Nat → SP) (a0 : Act) (W : World) (listed : Array Bool) (a : Act) (w : World) : Prop where
  size : listed.size = ops.size
  len : a.tmps.size = a0.tmps.size
  defers : a.defers = a0.defers
  out : ∀ s, outB ops s = true → a.tmps[s]? = a0.tmps[s]?
  val : ∀ i o d, ops[i]? = some o → o.dst = some d → listed.getD i false = true → ∃ x, a.tmps[d]? = some x ∧ (φ i).p x w
  bel : Below W.heap.size W w
/-- What is to be shown of one operation. -/
def AStep (P : Program) (ops : Array Oper) (Q : Exit → Act → World → Prop) (φ : Nat → SP) (a0 : Act) (W : World) (i : Nat) (o : Oper) : Prop :=
  ∀ (a : Act) (w : World) (K : Act → World → Prop),
    (∀ s, outB ops s = true → a.tmps[s]? = a0.tmps[s]?) →
    (∀ j oj d, ops[j]? = some oj → oj.dst = some d → (o.after.any fun e => Region.binds .any e && e.on == j) = true → ∃ x, a.tmps[d]? = some x ∧ (φ j).p x w) →
    Below W.heap.size W w →
    (∀ x w', (φ i).p x w' → Below w.heap.size w w' → K (a.put o.dst x) w') →
    if Region.wanted o (yielded ops a.tmps) = true then Oper.wp P o a w K Q else K (a.put o.dst undef) w
def ASteps (P : Program) (ops : Array Oper) (Q : Exit → Act → World → Prop) (φ : Nat → SP) (a0 : Act) (W : World) : Nat → List Oper → Prop
  | _, [] => True
  | i, o :: l => AStep P ops Q φ a0 W i o ∧ ASteps P ops Q φ a0 W (i + 1) l
theorem asteps_get : ∀ (l : List Oper) (k : Nat), ASteps P ops Q φ a0 W k l → ∀ j o, l[j]? = some o → AStep P ops Q φ a0 W (k + j) o
  | [], _, _, j, o, h => by simp at h
  | x :: l, k, hs, 0, o, h => by
    simp at h
    subst h
    exact hs.1
  | x :: l, k, hs, j + 1, o, h => by
    simp at h
    have := asteps_get l (k + 1) hs.2 j o h
    rw [show k + (j + 1) = k + 1 + j by omega]
    exact this
theorem aoB_spec {n : Nat} (h : aoB ops n = true) {i : Nat} {o : Oper} (ho : ops[i]? = some o) : (∀ e ∈ o.after, e.on < i) ∧ ∃ d, o.dst = some d ∧ d < n ∧ ∀ j oj, ops[j]? = some oj → oj.dst = some d → j = i := by
  have hi : i < ops.size := (Array.getElem?_eq_some_iff.1 ho).1
  have h1 := List.all_eq_true.1 h i (List.mem_range.2 hi)
  simp only [ho] at h1
  simp only [Bool.and_eq_true] at h1
  obtain ⟨h2, h3⟩ := h1
  refine ⟨fun e he => by
    have := Array.all_eq_true'.1 h2 e he
    simpa using this, ?_⟩
  cases hd : o.dst with
  | none => simp [hd] at h3
  | some d =>
    simp only [hd, Bool.and_eq_true, decide_eq_true_eq] at h3
    refine ⟨d, rfl, h3.1, fun j oj hj hjd => ?_⟩
    have h4 := List.all_eq_true.1 h3.2 j (List.mem_range.2 (Array.getElem?_eq_some_iff.1 hj).1)
    simp only [hj, Option.bind_some, hjd, Bool.or_eq_true, beq_iff_eq] at h4
    rcases h4 with h4 | h4
    · exact h4
    · simp at h4
theorem out_ne {s i d : Nat} {o : Oper} (h : outB ops s = true) (ho : ops[i]? = some o) (hd : o.dst = some d) : d ≠ s := by
  intro e
  subst e
  have := List.all_eq_true.1 h i (List.mem_range.2 (Array.getElem?_eq_some_iff.1 ho).1)
  simp [ho, hd] at this
def unl (listed : Array Bool) : Nat := listed.toList.countP (fun b => !b)
theorem unl_set {listed : Array Bool} {i : Nat} (h : listed.getD i true = false) : unl listed = unl (listed.setIfInBounds i true) + 1 := by
  have hi : i < listed.size := by
    rcases Nat.lt_or_ge i listed.size with h' | h'
    · exact h'
    · simp [Array.getElem?_eq_none h'] at h
  have hv : listed.toList[i]'(by simpa using hi) = false := by
    simp [hi] at h
    simpa using h
  unfold unl
  rw [Array.toList_setIfInBounds, List.countP_set (by simpa using hi), hv]
  have hpos : 0 < listed.toList.countP (fun b => !b) := List.countP_pos_iff.2 ⟨false, by rw [← hv]; exact List.getElem_mem _, rfl⟩
  simp only [Bool.not_false, Bool.not_true, if_true, Bool.false_eq_true, if_false]
  omega
theorem all_listed {listed : Array Bool} (hsz : listed.size = ops.size) {n : Nat} (hB : aoB ops n = true) (hr : Region.ready .any ops listed = []) : ∀ i, i < ops.size → listed.getD i false = true := by
  intro i
  induction i using Nat.strongRecOn with
  | _ i ih =>
    intro hi
    obtain ⟨o, ho⟩ : ∃ o, ops[i]? = some o := ⟨ops[i], Array.getElem?_eq_getElem hi⟩
    have hb := (aoB_spec hB ho).1
    cases hl : listed.getD i false with
    | true => rfl
    | false =>
      have hmem : i ∈ Region.ready .any ops listed := by
        rw [mem_ready]
        refine ⟨by
          have : i < listed.size := by omega
          simp [this] at hl ⊢
          exact hl, o, ho, fun e he _ => ih e.on (hb e he) (by have := hb e he; omega)⟩
      rw [hr] at hmem
      cases hmem
theorem getD_rep (m j : Nat) : (Array.replicate m false).getD j false = false := by
  rcases Nat.lt_or_ge j m with h | h
  · simp [h]
  · simp [h]
theorem ao_done {listed : Array Bool} {a : Act} {w : World} (inv : AO ops φ a0 W listed a w) (hB : aoB ops a0.tmps.size = true) (hr : Region.ready .any ops listed = [])
    (fin : ∀ a w, AO ops φ a0 W (Array.replicate ops.size true) a w → Q .normal a w) : Q .normal a w := by
  refine fin a w ⟨by simp, inv.len, inv.defers, inv.out, fun i o d ho hd _ => inv.val i o d ho hd (all_listed inv.size hB hr i (Array.getElem?_eq_some_iff.1 ho).1), inv.bel⟩
theorem ao_any (hB : aoB ops a0.tmps.size = true) (hs : ASteps P ops Q φ a0 W 0 ops.toList) (fin : ∀ a w, AO ops φ a0 W (Array.replicate ops.size true) a w → Q .normal a w) :
    ∀ (fuel : Nat) (listed : Array Bool) (a : Act) (w : World), AO ops φ a0 W listed a w → unl listed = fuel → wpAny P .any ops Q fuel listed a w
  | 0, listed, a, w, inv, hf => by
    have hr : Region.ready .any ops listed = [] := by
      rw [List.eq_nil_iff_forall_not_mem]
      intro i hi
      have h1 := (mem_ready.1 hi).1
      have := unl_set h1
      omega
    exact ⟨hr, ao_done inv hB hr fin⟩
  | fuel + 1, listed, a, w, inv, hf => by
    refine ⟨fun hr => ao_done inv hB hr fin, fun i hi => ?_⟩
    obtain ⟨hun, o, ho, hall⟩ := mem_ready.1 hi
    obtain ⟨hback, d, hd, hdn, huniq⟩ := aoB_spec hB ho
    refine wpOp_step ho fun K hK => ?_
    have hst : AStep P ops Q φ a0 W i o := by
      have := asteps_get ops.toList 0 hs i o (by simpa using ho)
      simpa using this
    have hgo : ∀ x w', (φ i).p x w' → Below w.heap.size w w' → K (a.put o.dst x) w' := by
      intro x w' hp hb
      refine hK _ _ (ao_any hB hs fin fuel _ _ _ ?_ (by have := unl_set hun; omega))
      have hput : a.put o.dst x = { a with tmps := a.tmps.setIfInBounds d x } := by rw [hd]; rfl
      rw [hput]
      have hda : d < a.tmps.size := by rw [inv.len]; exact hdn
      refine ⟨by simp [inv.size], by simp [inv.len], inv.defers, fun s hs' => ?_, fun j oj dj hj hdj hl => ?_, inv.bel.trans (hb.mono inv.bel.size)⟩
      · rw [← inv.out s hs']
        exact Array.getElem?_setIfInBounds_ne (out_ne hs' ho hd)
      · by_cases hji : j = i
        · subst hji
          have : oj = o := Option.some.inj (hj.symm.trans ho)
          subst this
          have : dj = d := Option.some.inj (hdj.symm.trans hd)
          subst this
          exact ⟨x, by simp [hda], hp⟩
        · have hl' : listed.getD j false = true := by rw [getD_set_ne false (Ne.symm hji)] at hl; exact hl
          obtain ⟨y, hy, hpy⟩ := inv.val j oj dj hj hdj hl'
          refine ⟨y, ?_, (φ j).mono _ _ _ hpy hb⟩
          rw [Array.getElem?_setIfInBounds_ne (fun e => hji (huniq j oj hj (by rw [hdj, e])))]
          exact hy
    refine hst a w K inv.out (fun j oj dj hj hdj hdep => ?_) inv.bel hgo
    obtain ⟨e, he, hbe⟩ := Array.any_eq_true'.1 hdep
    simp only [Bool.and_eq_true, beq_iff_eq] at hbe
    have := hall e he hbe.1
    rw [hbe.2] at this
    exact inv.val j oj dj hj hdj this
/-- WHATEVER ORDER IS DRAWN: each operation once. -/
theorem wp_region_order {id : Nat} {w0 : World} (φ : Nat → SP) (hm : P.follows .mixedOrders = true) (hB : aoB ops a0.tmps.size = true)
    (hs : ASteps P ops Q φ a0 w0 0 ops.toList) (fin : ∀ a w, AO ops φ a0 w0 (Array.replicate ops.size true) a w → Q .normal a w) : (Code.region id ops true).wp P Q a0 w0 := by
  refine wp_region_any hm (ao_any hB hs fin _ _ _ _ ⟨by simp, rfl, rfl, fun _ _ => rfl, fun i o d _ _ hl => ?_, (Below.refl _ w0).drew⟩ ?_)
  · rw [getD_rep] at hl; cases hl
  · unfold unl
    rw [Array.toList_replicate, List.countP_replicate]
    simp
/-- The frame behind the region: the operations' slots hold letters. -/
def frm (f : Nat → Value) (isD : Nat → Bool) : Nat → List Value → List Value
  | _, [] => []
  | s, x :: l => (if isD s = true then f s else x) :: frm f isD (s + 1) l
theorem frm_get (f : Nat → Value) (isD : Nat → Bool) : ∀ (l : List Value) (k j : Nat), (frm f isD k l)[j]? = l[j]?.map fun x => if isD (k + j) = true then f (k + j) else x
  | [], k, j => by simp [frm]
  | x :: l, k, 0 => by simp [frm]
  | x :: l, k, j + 1 => by
    simp only [frm, List.getElem?_cons_succ]
    rw [frm_get f isD l (k + 1) j, show k + 1 + j = k + (j + 1) by omega]
theorem ao_frame {listed : Array Bool} {a : Act} {w : World} (inv : AO ops φ a0 W listed a w) (isD : Nat → Bool) (hD : ((List.range a0.tmps.size).all fun s => isD s || outB ops s) = true) :
    a = ⟨(frm (fun s => a.tmps[s]?.getD undef) isD 0 a0.tmps.toList).toArray, a0.defers⟩ := by
  have h1 : a.tmps = (frm (fun s => a.tmps[s]?.getD undef) isD 0 a0.tmps.toList).toArray := by
    apply Array.ext_getElem?
    intro s
    rw [show (frm (fun s => a.tmps[s]?.getD undef) isD 0 a0.tmps.toList).toArray[s]? = (frm (fun s => a.tmps[s]?.getD undef) isD 0 a0.tmps.toList)[s]? from by simp, frm_get]
    rcases Nat.lt_or_ge s a0.tmps.size with hs | hs
    · have ha : s < a.tmps.size := by rw [inv.len]; exact hs
      have h2 := List.all_eq_true.1 hD s (List.mem_range.2 hs)
      simp only [Bool.or_eq_true] at h2
      simp only [Array.getElem?_toList, Array.getElem?_eq_getElem hs, Option.map_some, Nat.zero_add]
      cases hd : isD s with
      | true => simp [ha]
      | false =>
        rw [hd] at h2
        have h3 := inv.out s (by simpa using h2)
        rw [h3, Array.getElem?_eq_getElem hs]
        simp
    · have ha : a.tmps.size ≤ s := by rw [inv.len]; exact hs
      rw [Array.getElem?_eq_none ha]
      simp [hs]
  have h2 := inv.defers
  obtain ⟨T, D⟩ := a
  simp only at h1 h2
  subst h2
  exact congrArg (fun x => Act.mk x _) h1
theorem ao_fin {isD : Nat → Bool} (hD : ((List.range a0.tmps.size).all fun s => isD s || outB ops s) = true)
    (h : ∀ (f : Nat → Value) (w : World), (∀ i o d, ops[i]? = some o → o.dst = some d → (φ i).p (f d) w) → Below W.heap.size W w → Q .normal ⟨(frm f isD 0 a0.tmps.toList).toArray, a0.defers⟩ w) :
    ∀ a w, AO ops φ a0 W (Array.replicate ops.size true) a w → Q .normal a w := by
  intro a w inv
  rw [ao_frame inv isD hD]
  refine h _ w (fun i o d ho hd => ?_) inv.bel
  obtain ⟨x, hx, hp⟩ := inv.val i o d ho hd (by have := (Array.getElem?_eq_some_iff.1 ho).1; simp [this])
  simp only [hx, Option.getD_some]
  exact hp
theorem wanted_none {o : Oper} {a : Act} (hg : o.guard = none) : Region.wanted o (yielded ops a.tmps) = true := by unfold Region.wanted; rw [hg]
theorem wanted_bool {o oj : Oper} {a : Act} {j d : Nat} {want b : Bool} (hg : o.guard = some (j, want)) (hj : ops[j]? = some oj) (hd : oj.dst = some d) (hx : a.tmps[d]? = some (.bool b)) : Region.wanted o (yielded ops a.tmps) = (b == want) := by
  unfold Region.wanted yielded
  rw [hg]
  simp [hj, hd, hx]
theorem wanted_undef {o oj : Oper} {a : Act} {j d : Nat} {want : Bool} (hg : o.guard = some (j, want)) (hj : ops[j]? = some oj) (hd : oj.dst = some d) (hx : a.tmps[d]? = some undef) : Region.wanted o (yielded ops a.tmps) = false := by
  unfold Region.wanted yielded
  rw [hg]
  simp [hj, hd, hx, undef]
end
end Go.Proofs.YtfmdcnfniimkoaaGreat
/- A slice of bytes in memory. -/
namespace Go.Proofs.YtfmdcnfniimkoaaGreat
open Go.RowKit
/-- A slice of bytes that was there: empty, or a row of cells in a block that was there. -/
def BytesAt (w : World) (a : Option Addr) (l : List UInt8) : Prop :=
  l.length ≤ maxLen ∧ (l = [] ∨ ∃ b off, a = some ⟨b, off, none⟩ ∧ b < w.heap.size ∧ ∀ i (h : i < l.length), w.cell? ⟨b, off + i, none⟩ = some (.int .u8 l[i].toNat))
theorem BytesAt.below {w w' : World} {a : Option Addr} {l : List UInt8} (h : BytesAt w a l) (hb : Below w.heap.size w w') : BytesAt w' a l := by
  obtain ⟨h2, h3⟩ := h
  refine ⟨h2, ?_⟩
  rcases h3 with h3 | ⟨b, off, rfl, hlt, hc⟩
  · exact .inl h3
  · exact .inr ⟨b, off, rfl, Nat.lt_of_lt_of_le hlt hb.size, fun i h => by rw [hb.cell (p := ⟨b, off + i, none⟩) hlt]; exact hc i h⟩
end Go.Proofs.YtfmdcnfniimkoaaGreat
/- Slices of bytes of a call's own. -/
namespace Go.Proofs.YtfmdcnfniimkoaaGreat
open Go.RowKit
/-- A slice of bytes comes back. -/
def BytesRet (l : List UInt8) (w : World) (e : Ending) (w' : World) : Prop := ∃ a cap, e = .returned (.slice a l.length cap) ∧ l.length ≤ cap ∧ Below w.heap.size w w' ∧ BytesAt w' a l
theorem ret_bytes {w : World} {B : Nat} {v : Value} {l : List UInt8} (h : w.ownsRow B 5 1 v l.length (Lib.byteCells l)) : ∃ a cap, v = .slice a l.length cap ∧ l.length ≤ cap ∧ BytesAt w a l := by
  obtain ⟨_, ⟨rfl, h0⟩ | ⟨g, cap, cur, rfl, _, hg, hn, hm, hs, ht⟩⟩ := h
  · refine ⟨none, 0, by rw [h0], by omega, ?_⟩
    have : l = [] := List.eq_nil_of_length_eq_zero h0
    subst this; exact ⟨by simp, .inl rfl⟩
  · refine ⟨_, _, rfl, hn, by omega, .inr ⟨g, 0, rfl, ?_, ?_⟩⟩
    · rcases Nat.lt_or_ge g w.heap.size with h' | h'
      · exact h'
      · simp [Array.getElem?_eq_none h'] at hg
    · intro i hi
      have e : (cur.toList.take (l.length * 1))[i]? = (Lib.byteCells l)[i]? := by rw [ht]
      rw [List.getElem?_take, if_pos (by omega)] at e
      simp only [World.cell?, hg, Nat.zero_add, Option.isSome_none, Bool.false_eq_true, if_false]
      rw [← Array.getElem?_toList, e]
      simp [Lib.byteCells, List.getElem?_eq_getElem hi]
theorem own_ge {w : World} {B : Nat} {v : Value} {n : Nat} {xs : List Value} (h : w.ownsRow B 5 1 v n xs) : ∀ g, v.ownBlock = some g → B ≤ g := by
  intro g hg
  obtain ⟨_, ⟨rfl, _⟩ | ⟨g', cap, cur, rfl, hB, _⟩⟩ := h
  · simp [Value.ownBlock] at hg
  · simp [Value.ownBlock] at hg; omega
theorem own_below {w w' : World} {B : Nat} {v : Value} {n : Nat} {xs : List Value} (h : w.ownsRow B 5 1 v n xs) (hb : Below w.heap.size w w') : w'.ownsRow B 5 1 v n xs := by
  obtain ⟨h1, h2⟩ := h
  refine ⟨h1, ?_⟩
  rcases h2 with h2 | ⟨g, cap, cur, rfl, hB, hg, hr⟩
  · exact .inl h2
  · exact .inr ⟨g, cap, cur, rfl, hB, (hb.block g (Array.getElem?_eq_some_iff.1 hg).1).trans hg, hr⟩
theorem new_block (w : World) (o : Obj) : (w.alloc o).heap[w.heap.size]? = some o := by
  show (w.heap.push o)[w.heap.size]? = some o
  simp
theorem conv_bytes {w : World} {a : Option Addr} {l : List UInt8} (h : BytesAt w a l) (cap : Nat) : (convert 73 9 (.slice a l.length cap)).run Tryz.prog w = .ok (.string ⟨l.toArray⟩) w := by
  obtain ⟨_, h3⟩ := h
  rcases h3 with rfl | ⟨b, off, rfl, _, hc⟩
  · rw [run_convert_bytes_string w _ _ _ _ _ _ Tryz.underlying73 Tryz.underlying5 Tryz.underlying9]
    cases a with
    | none => rfl
    | some a => rfl
  · exact run_convert_bytes_back w _ _ _ _ _ l Tryz.underlying73 Tryz.underlying5 Tryz.underlying9 fun j hj => by rw [Go.WideShapes.add_plain]; exact hc j hj
end Go.Proofs.YtfmdcnfniimkoaaGreat
namespace Go.Proofs.YtfmdcnfniimkoaaGreat
open Go.RowKit
def digB (r : Int) : Bool := decide (48 ≤ r ∧ r ≤ 57)
def lowB (r : Int) : Bool := decide (97 ≤ r ∧ r ≤ 122)
set_option maxHeartbeats 400000 in
theorem isDigit_any (r : Int) (w : World) :
    Calls Tryz.prog 152 #[.int .i32 r] w fun e w' => e = .returned (.bool (digB r)) ∧ w = w' := by
  by_cases h : 48 ≤ r
  · by_cases h2 : r ≤ 57
    · have e : digB r = true := by simp [digB]; omega
      rw [e]; clear e
      go_enter Tryz.func152, Tryz.ntmps152
      go_wp2
      go_ret
      exact ⟨rfl, rfl⟩
    · have e : digB r = false := by simp [digB]; omega
      rw [e]; clear e
      go_enter Tryz.func152, Tryz.ntmps152
      go_wp2
      go_ret
      exact ⟨rfl, rfl⟩
  · have e : digB r = false := by simp [digB]; omega
    rw [e]; clear e
    go_enter Tryz.func152, Tryz.ntmps152
    go_wp2
    go_ret
    exact ⟨rfl, rfl⟩
def chB (r : Int) : Bool := lowB r || digB r || r == 95
def headB : List UInt8 → Bool
  | [] => false
  | c :: _ => lowB c.toNat
def nameB (l : List UInt8) : Bool := decide (l.length ≤ 30) && headB l && l.all fun c => chB c.toNat
theorem str_ne (s : ByteArray) (h : s.size ≠ 0) : ¬ s.toList = [] ∧ s.toList.isEmpty = false := by
  have : ¬ s.toList = [] := by
    rw [ByteArray.toList_eq]; intro e; apply h
    have := congrArg List.length e; simpa using this
  exact ⟨this, by simpa using this⟩
theorem str_nil (s : ByteArray) (h : s.size = 0) : s.toList = [] ∧ s.toList.isEmpty = true := by
  have : s.toList = [] := by
    rw [ByteArray.toList_eq]; apply List.eq_nil_of_length_eq_zero; simpa using h
  exact ⟨this, by simpa using this⟩
theorem dec_high (s : ByteArray) (k : Nat) (h : k < s.size) (hc : ¬ (chB (s[k]'h).toNat = true ∧ (k = 0 → lowB (s[k]'h).toNat = true))) :
    (k = 0 ∧ lowB ((Utf8.decode s k).1 : Nat) = false) ∨ (k ≠ 0 ∧ lowB ((Utf8.decode s k).1 : Nat) = false ∧ digB ((Utf8.decode s k).1 : Nat) = false ∧ ((((Utf8.decode s k).1 : Nat) : Int) != 95) = true) := by
  have key : ∀ r : Nat, (r = (s[k]'h).toNat ∨ (128 ≤ r ∧ 128 ≤ (s[k]'h).toNat)) → (k = 0 ∧ lowB (r : Nat) = false) ∨ (k ≠ 0 ∧ lowB (r : Nat) = false ∧ digB (r : Nat) = false ∧ (((r : Nat) : Int) != 95) = true) := by
    intro r hr
    generalize (s[k]'h).toNat = c at *
    by_cases k0 : k = 0
    · left; refine ⟨k0, ?_⟩
      simp [k0, chB, lowB, digB] at hc ⊢; omega
    · right; refine ⟨k0, ?_⟩
      simp [k0, chB, lowB, digB] at hc ⊢; omega
  apply key
  by_cases ha : (s[k]'h).toNat < 128
  · left; rw [decode_ascii s k h ha]
  · right; exact ⟨(decode_high s k h (by omega)).1, by omega⟩
theorem nameB_long (s : ByteArray) (h : 30 < s.size) : nameB s.data.toList = false := by
  unfold nameB
  have : ¬ s.data.toList.length ≤ 30 := by simp; omega
  rw [decide_eq_false this]; rfl
theorem nameB_nil (s : ByteArray) (h : s.size = 0) : nameB s.data.toList = false := by
  have : s.data.toList = [] := by apply List.eq_nil_of_length_eq_zero; simpa using h
  rw [this]; rfl
theorem bget (s : ByteArray) (j : Nat) (_h : j < s.size) (h' : j < s.data.toList.length) : s.data.toList[j] = s[j] := rfl
theorem head_of (s : ByteArray) (h : 0 < s.size) : headB s.data.toList = lowB (s[0]'h).toNat := by
  have h' : 0 < s.data.toList.length := by simpa using h
  rw [← bget s 0 h h']
  generalize s.data.toList = l at *
  cases l with
  | nil => simp at h'
  | cons c t => rfl
theorem nameB_yes (s : ByteArray) (h1 : s.size ≤ 30) (h2 : headB s.data.toList = true) (h3 : ∀ j (hj : j < s.size), chB (s[j]'hj).toNat = true) : nameB s.data.toList = true := by
  unfold nameB
  rw [h2]
  have : s.data.toList.length ≤ 30 := by simpa using h1
  simp only [this, decide_true, Bool.true_and, List.all_eq_true]
  intro c hc
  obtain ⟨j, hj, rfl⟩ := List.getElem_of_mem hc
  exact h3 j (by simpa using hj)
theorem nameB_no (s : ByteArray) (k : Nat) (h : k < s.size) (hc : ¬ (chB (s[k]'h).toNat = true ∧ (k = 0 → lowB (s[k]'h).toNat = true))) : nameB s.data.toList = false := by
  rw [Bool.eq_false_iff]
  intro e
  unfold nameB at e
  simp only [Bool.and_eq_true, List.all_eq_true] at e
  obtain ⟨⟨_, e2⟩, e3⟩ := e
  apply hc
  have h' : k < s.data.toList.length := by simpa using h
  refine ⟨?_, ?_⟩
  · rw [← bget s k h h']; exact e3 _ (List.getElem_mem _)
  · rintro rfl; rw [head_of s h] at e2; exact e2
end Go.Proofs.YtfmdcnfniimkoaaGreat
