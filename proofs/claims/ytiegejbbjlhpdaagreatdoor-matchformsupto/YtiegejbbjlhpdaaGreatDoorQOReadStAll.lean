/- Lemmas of mine, merged: QOReadSt, QONormA, QOOrdF, QOReadL, QORdrG. -/
import Derived.Test.YtiegejbbjlhpdaaGreatDoorQORexEAll
import Derived.Test.YtiegejbbjlhpdaaGreatDoorQORexBAll
import Derived.BigRegion
/- Lemmas of mine. -/
namespace Go.Proofs.YtiegejbbjlhpdaaGreatDoor
structure Lv where
  rows : List Ex
  parts : List Ex
theorem stars_stop (p : Ex) {l : List UInt8} (h : NotAt 42 l) : stars p l = (p, l) := by
  cases l with
  | nil => rfl
  | cons c t =>
    have hc : ¬ c = 42 := fun e => h t (by rw [e])
    simp only [stars, if_neg hc]
theorem stars_42 (p : Ex) (l : List UInt8) : stars p (42 :: l) = stars (.star p) l := by simp only [stars, if_true]
theorem beg_not {l : List UInt8} (h : begB l = true) : NotAt 42 l ∧ NotAt 41 l ∧ NotAt 124 l := by
  refine ⟨fun t e => ?_, fun t e => ?_, fun t e => ?_⟩ <;> (subst e; revert h; simp only [begB]; decide)
theorem atom_beg {l l1 : List UInt8} {a : Ex} (h : PX .atom l (.ok a l1)) : begB l = true := by
  cases h with
  | dot => rfl
  | cls => rfl
  | eps => rfl
  | round => rfl
  | sign h1 h2 h3 h4 =>
    cases l with
    | nil => simp [sgn] at h4
    | cons c t =>
      by_cases hc : c = 92
      · subst hc; rfl
      · rw [sgn_own c t hc] at h4
        by_cases ho : ownB c = true
        · simp [begB, ho]
        · rw [if_neg ho] at h4; cases h4
def RowM (m : List UInt8) (parts : List Ex) (l : List UInt8) : Prop :=
  (parts = [] ∧ m = l) ∨ ∃ ps p a l' l1, parts = ps ++ [p] ∧ RowSt m ps l' ∧ (ps = [] ∨ begB l' = true) ∧ PX .atom l' (.ok a l1) ∧ stars a l1 = stars p l
theorem RowM.st {m l : List UInt8} {parts : List Ex} (h : RowM m parts l) (h42 : NotAt 42 l) : RowSt m parts l := by
  rcases h with ⟨rfl, rfl⟩ | ⟨ps, p, a, l', l1, rfl, hst, hc, ha, hs⟩
  · exact RowSt.start _
  · exact hst.step hc ha (by rw [hs, stars_stop p h42])
theorem RowM.add {m l l1 : List UInt8} {parts : List Ex} {a : Ex} (h : RowM m parts l) (ha : PX .atom l (.ok a l1)) : RowM m (parts ++ [a]) l1 :=
  .inr ⟨parts, a, a, l, l1, rfl, h.st (beg_not (atom_beg ha)).1, .inr (atom_beg ha), ha, rfl⟩
theorem RowM.star {m l : List UInt8} {ps : List Ex} {p : Ex} (h : RowM m (ps ++ [p]) (42 :: l)) : RowM m (ps ++ [.star p]) l := by
  rcases h with ⟨e, _⟩ | ⟨ps', p', a, l', l1, e, hst, hc, ha, hs⟩
  · simp at e
  · obtain ⟨rfl, e⟩ := List.append_inj' e rfl
    simp at e
    subst e
    exact .inr ⟨ps, _, a, l', l1, rfl, hst, hc, ha, by rw [hs, stars_42]⟩
def LvSt (m0 : List UInt8) (lv : Lv) (l : List UInt8) : Prop :=
  (∃ m, AltSt m0 lv.rows m ∧ RowM m lv.parts l ∧ (lv.rows = [] → m = m0)) ∧ ((lv.rows = [] ∧ lv.parts = []) ∨ NotAt 41 m0)
theorem LvSt.empty {m0 l : List UInt8} {lv : Lv} (h : LvSt m0 lv l) (hr : lv.rows = []) (hp : lv.parts = []) : m0 = l := by
  obtain ⟨⟨m, _, h2, h3⟩, _⟩ := h
  rcases h2 with ⟨_, e⟩ | ⟨ps, p, a, l', l1, e, _⟩
  · rw [← h3 hr, e]
  · rw [hp] at e; simp at e
theorem LvSt.start (l : List UInt8) : LvSt l ⟨[], []⟩ l := ⟨⟨l, AltSt.start _, .inl ⟨rfl, rfl⟩, fun _ => rfl⟩, .inl ⟨rfl, rfl⟩⟩
theorem LvSt.add {m0 l l1 : List UInt8} {lv : Lv} {a : Ex} (h : LvSt m0 lv l) (ha : PX .atom l (.ok a l1)) : LvSt m0 ⟨lv.rows, lv.parts ++ [a]⟩ l1 := by
  have h' := h
  obtain ⟨⟨m, h1, h2, h3⟩, h4⟩ := h
  refine ⟨⟨m, h1, h2.add ha, h3⟩, .inr ?_⟩
  rcases h4 with ⟨e1, e2⟩ | h4
  · rw [h'.empty e1 e2]; exact (beg_not (atom_beg ha)).2.1
  · exact h4
theorem LvSt.star {m0 l : List UInt8} {rows ps : List Ex} {p : Ex} (h : LvSt m0 ⟨rows, ps ++ [p]⟩ (42 :: l)) : LvSt m0 ⟨rows, ps ++ [.star p]⟩ l := by
  obtain ⟨⟨m, h1, h2, h3⟩, h4⟩ := h
  refine ⟨⟨m, h1, h2.star, h3⟩, .inr ?_⟩
  rcases h4 with ⟨_, e⟩ | h4
  · simp at e
  · exact h4
theorem LvSt.row {m0 l : List UInt8} {lv : Lv} (h : LvSt m0 lv l) (hp : lv.parts ≠ []) (h42 : NotAt 42 l) (hb : begB l = false) :
    NotAt 41 m0 ∧ ∃ m, AltSt m0 lv.rows m ∧ PX .row m (.ok (foldE .seq lv.parts) l) := by
  obtain ⟨⟨m, h1, h2, h3⟩, h4⟩ := h
  refine ⟨?_, m, h1, (h2.st h42).2 hp hb⟩
  rcases h4 with ⟨_, e⟩ | h4
  · exact absurd e hp
  · exact h4
theorem beg_124 (l : List UInt8) : begB (124 :: l) = false := by simp only [begB]; decide
theorem beg_41 (l : List UInt8) : begB (41 :: l) = false := by simp only [begB]; decide
theorem LvSt.bar {m0 l : List UInt8} {lv : Lv} (h : LvSt m0 lv (124 :: l)) (hp : lv.parts ≠ []) : LvSt m0 ⟨lv.rows ++ [foldE .seq lv.parts], []⟩ l := by
  obtain ⟨h4, m, h1, h2⟩ := h.row hp (notAt_cons (by decide)) (beg_124 l)
  exact ⟨⟨l, h1.step h2, .inl ⟨rfl, rfl⟩, fun e => by simp at e⟩, .inr h4⟩
theorem LvSt.done {m0 l : List UInt8} {lv : Lv} (h : LvSt m0 lv l) (hp : lv.parts ≠ []) (h42 : NotAt 42 l) (hb : begB l = false) (h124 : NotAt 124 l) : NotAt 41 m0 ∧ PX .alt m0 (.ok (foldE .alt (lv.rows ++ [foldE .seq lv.parts])) l) := by
  obtain ⟨h4, m, h1, h2⟩ := h.row hp h42 hb
  exact ⟨h4, h1.last h2 h124⟩
theorem LvSt.bad {m0 l r : List UInt8} {lv : Lv} (h : LvSt m0 lv l) (ha : PX .atom l (.bad r)) (hc : lv.parts = [] ∨ begB l = true) : PX .alt m0 (.bad r) := by
  obtain ⟨⟨m, h1, h2, h3⟩, h4⟩ := h
  rcases hc with hc | hc
  · rcases h2 with ⟨_, rfl⟩ | ⟨ps, p, a, l', l1, e, _⟩
    · exact h1.bad (PX.rowBad ha)
    · rw [hc] at e; simp at e
  · exact h1.bad ((h2.st (beg_not hc).1).bad (.inr hc) ha)
inductive StkSt (l0 : List UInt8) : List Lv → Lv → List UInt8 → Prop
  | base {lv : Lv} {l : List UInt8} : LvSt l0 lv l → StkSt l0 [] lv l
  | push {low : List Lv} {lv lv' : Lv} {l m0 : List UInt8} : StkSt l0 low lv' (40 :: m0) → LvSt m0 lv l → StkSt l0 (low ++ [lv']) lv l
theorem StkSt.start (l : List UInt8) : StkSt l [] ⟨[], []⟩ l := .base (LvSt.start l)
theorem StkSt.open {l0 l : List UInt8} {low : List Lv} {lv : Lv} (h : StkSt l0 low lv (40 :: l)) : StkSt l0 (low ++ [lv]) ⟨[], []⟩ l := .push h (LvSt.start l)
theorem StkSt.turn {l0 l l' : List UInt8} {low : List Lv} {lv lv' : Lv} (h : StkSt l0 low lv l) (hi : ∀ m0, LvSt m0 lv l → LvSt m0 lv' l') : StkSt l0 low lv' l' := by
  cases h with
  | base h => exact .base (hi _ h)
  | push h1 h2 => exact .push h1 (hi _ h2)
theorem StkSt.add {l0 l l1 : List UInt8} {low : List Lv} {lv : Lv} {a : Ex} (h : StkSt l0 low lv l) (ha : PX .atom l (.ok a l1)) : StkSt l0 low ⟨lv.rows, lv.parts ++ [a]⟩ l1 := h.turn fun _ k => k.add ha
theorem StkSt.star {l0 l : List UInt8} {low : List Lv} {rows ps : List Ex} {p : Ex} (h : StkSt l0 low ⟨rows, ps ++ [p]⟩ (42 :: l)) : StkSt l0 low ⟨rows, ps ++ [.star p]⟩ l := h.turn fun _ k => k.star
theorem StkSt.bar {l0 l : List UInt8} {low : List Lv} {lv : Lv} (h : StkSt l0 low lv (124 :: l)) (hp : lv.parts ≠ []) : StkSt l0 low ⟨lv.rows ++ [foldE .seq lv.parts], []⟩ l := h.turn fun _ k => k.bar hp
theorem snoc_inj {α : Type} {a b : List α} {x y : α} (h : a ++ [x] = b ++ [y]) : a = b ∧ x = y := by
  obtain ⟨h1, h2⟩ := List.append_inj' h rfl
  simp at h2
  exact ⟨h1, h2⟩
theorem StkSt.pop {l0 l : List UInt8} {low : List Lv} {lv lv' : Lv} (h : StkSt l0 (low ++ [lv']) lv l) : ∃ m0, StkSt l0 low lv' (40 :: m0) ∧ LvSt m0 lv l := by
  generalize hq : low ++ [lv'] = q at h
  cases h with
  | base => simp at hq
  | push h1 h2 =>
    obtain ⟨rfl, rfl⟩ := snoc_inj hq
    exact ⟨_, h1, h2⟩
theorem StkSt.close {l0 l : List UInt8} {low : List Lv} {lv lv' : Lv} (h : StkSt l0 (low ++ [lv']) lv (41 :: l)) (hp : lv.parts ≠ []) : StkSt l0 low ⟨lv'.rows, lv'.parts ++ [foldE .alt (lv.rows ++ [foldE .seq lv.parts])]⟩ l := by
  obtain ⟨m0, h1, h2⟩ := h.pop
  obtain ⟨h3, h4⟩ := h2.done hp (notAt_cons (by decide)) (beg_41 l) (notAt_cons (by decide))
  exact h1.add (PX.round h3 h4)
theorem StkSt.closeE {l0 l : List UInt8} {low : List Lv} {lv lv' : Lv} (h : StkSt l0 (low ++ [lv']) lv (41 :: l)) (hr : lv.rows = []) (hp : lv.parts = []) : StkSt l0 low ⟨lv'.rows, lv'.parts ++ [.eps]⟩ l := by
  obtain ⟨m0, h1, h2⟩ := h.pop
  obtain rfl := h2.empty hr hp
  exact h1.add (PX.eps l)
theorem StkSt.atomBad {l0 l r : List UInt8} {low : List Lv} {lv : Lv} (h : StkSt l0 low lv l) : PX .atom l (.bad r) → (lv.parts = [] ∨ begB l = true) → (NotAt 41 l ∨ low = [] ∨ ¬(lv.rows = [] ∧ lv.parts = [])) → PX .alt l0 (.bad r) := by
  induction h with
  | base h => intro ha hc _; exact h.bad ha hc
  | @push low lv lv' l m0 h1 h2 ih =>
    intro ha hc hn
    have hb := h2.bad ha hc
    have h41 : NotAt 41 m0 := by
      rcases h2.2 with ⟨e1, e2⟩ | h4
      · rcases hn with hn | hn | hn
        · rw [h2.empty e1 e2]; exact hn
        · simp at hn
        · exact absurd ⟨e1, e2⟩ hn
      · exact h4
    exact ih (PX.roundBad h41 hb) (.inr rfl) (.inl (notAt_cons (by decide)))
def Ref (l0 r : List UInt8) : Prop := PX .alt l0 (.bad r) ∨ ∃ e, r ≠ [] ∧ PX .alt l0 (.ok e r)
theorem StkSt.ended {l0 l : List UInt8} {low : List Lv} {lv : Lv} (h : StkSt l0 low lv l) (hp : lv.parts ≠ []) (h42 : NotAt 42 l) (hb : begB l = false) (h124 : NotAt 124 l) (hl : (low = [] ∧ l ≠ []) ∨ (low ≠ [] ∧ NotAt 41 l)) : Ref l0 l := by
  cases h with
  | base h =>
    obtain ⟨_, h4⟩ := h.done hp h42 hb h124
    rcases hl with ⟨_, h5⟩ | ⟨h5, _⟩
    · exact .inr ⟨_, h5, h4⟩
    · exact absurd rfl h5
  | push h1 h2 =>
    obtain ⟨h3, h4⟩ := h2.done hp h42 hb h124
    rcases hl with ⟨h5, _⟩ | ⟨_, h5⟩
    · simp at h5
    · exact .inl (h1.atomBad (PX.roundNo h3 h4 h5) (.inr rfl) (.inl (notAt_cons (by decide))))
theorem StkSt.signBad {l0 l r : List UInt8} {low : List Lv} {lv : Lv} (h : StkSt l0 low lv l) (hne : l ≠ []) (h46 : NotAt 46 l) (h91 : NotAt 91 l) (h40 : NotAt 40 l) (h41 : NotAt 41 l) (h42 : NotAt 42 l) (h124 : NotAt 124 l) (hs : sgn l = .bad r) : Ref l0 r := by
  by_cases hc : lv.parts = [] ∨ begB l = true
  · exact .inl (h.atomBad (PX.signBad h46 h91 h40 hs) hc (.inl h41))
  · have h1 : lv.parts ≠ [] := fun e => hc (.inl e)
    have h2 : begB l = false := by
      cases hb : begB l with
      | false => rfl
      | true => exact absurd (.inr hb) hc
    have : r = l := by
      cases l with
      | nil => exact absurd rfl hne
      | cons c t =>
        have hc92 : c ≠ 92 := fun e => by subst e; cases h2
        rw [sgn_own c t hc92] at hs
        have ho : ¬ ownB c = true := fun e => by simp [begB, e] at h2
        rw [if_neg ho] at hs
        cases hs; rfl
    subst this
    refine h.ended h1 h42 h2 h124 ?_
    by_cases hl : low = []
    · exact .inl ⟨hl, hne⟩
    · exact .inr ⟨hl, h41⟩
theorem sgn_bad_cons (c : UInt8) (l : List UInt8) (h : c ≠ 92) (ho : ownB c = false) : sgn (c :: l) = .bad (c :: l) := by
  rw [sgn_own c l h, ho]; rfl
theorem StkSt.bare {l0 l : List UInt8} {low : List Lv} {lv : Lv} (h : StkSt l0 low lv l) (hp : lv.parts = []) (h46 : NotAt 46 l) (h91 : NotAt 91 l) (h40 : NotAt 40 l) (hs : sgn l = .bad l) (hn : NotAt 41 l ∨ low = [] ∨ lv.rows ≠ []) : Ref l0 l :=
  .inl (h.atomBad (PX.signBad h46 h91 h40 hs) (.inl hp) (by
    rcases hn with hn | hn | hn
    · exact .inl hn
    · exact .inr (.inl hn)
    · exact .inr (.inr fun e => hn e.1)))
open Go.RowKit
theorem kind_emp {e : Ex} {k : Nat} {s : Ws} {ks : List Rx} (h : e.rx = .node k s ks) : ((k : Int) == 1) = e.isEmp := by
  cases e <;> (simp only [Ex.rx] at h; injection h with h1 h2 h3; subst h1; rfl)
theorem kind_eps {e : Ex} {k : Nat} {s : Ws} {ks : List Rx} (h : e.rx = .node k s ks) : ((k : Int) == 2) = e.isEps := by
  cases e <;> (simp only [Ex.rx] at h; injection h with h1 h2 h3; subst h1; rfl)
theorem kind_seq {e : Ex} {k : Nat} {s : Ws} {ks : List Rx} (h : e.rx = .node k s ks) : ((k : Int) == 4) = e.isSeq := by
  cases e <;> (simp only [Ex.rx] at h; injection h with h1 h2 h3; subst h1; rfl)
theorem kind_alt {e : Ex} {k : Nat} {s : Ws} {ks : List Rx} (h : e.rx = .node k s ks) : ((k : Int) == 5) = e.isAlt := by
  cases e <;> (simp only [Ex.rx] at h; injection h with h1 h2 h3; subst h1; rfl)
theorem kind_star {e : Ex} {k : Nat} {s : Ws} {ks : List Rx} (h : e.rx = .node k s ks) : ((k : Int) == 6) = e.isStar := by
  cases e <;> (simp only [Ex.rx] at h; injection h with h1 h2 h3; subst h1; rfl)
theorem kind_cls {e : Ex} {k : Nat} {s : Ws} {ks : List Rx} (h : e.rx = .node k s ks) : ((k : Int) == 3) = e.isCls := by
  cases e <;> (simp only [Ex.rx] at h; injection h with h1 h2 h3; subst h1; rfl)
theorem starE_star {a : Ex} (h : a.isStar = true) : starE a = a := by cases a <;> simp_all [Ex.isStar, starE]
theorem starE_plain {a : Ex} (h1 : a.isEmp = false) (h2 : a.isEps = false) (h3 : a.isStar = false) : starE a = .star a := by cases a <;> simp_all [Ex.isEmp, Ex.isEps, Ex.isStar, starE]
theorem starE_bare {a : Ex} (h : a.isEmp = true ∨ a.isEps = true) : starE a = .eps := by cases a <;> simp_all [Ex.isEmp, Ex.isEps, starE]
open Go.RowKit
def onilBlk : Obj := .cells #[.int .u8 0, .int .u64 0, .int .u64 0, .int .u64 0, .int .u64 0, .slice none 0 0] 27
def oreBlk (k a b c d : Nat) (sl : Value) : Obj := .cells #[.int .u8 k, .int .u64 a, .int .u64 b, .int .u64 c, .int .u64 d, sl] 27
def ocloneInv (k a b c d : Nat) (sl : Value) (ks : List Rx) (w : World) (y : Value) (wr : World) : Prop := ∃ i : Nat, i ≤ ks.length ∧ y = .int .i64 i ∧
  wr.heap[w.heap.size]? = some (oreBlk k a b c d sl) ∧ wr.heap[w.heap.size + 1]? = some onilBlk ∧ Room wr (w.heap.size + 2) (ks.length * 6) ∧
  NodesAt (New (w.heap.size + 3)) wr (w.heap.size + 2) 0 (ks.take i) ∧ Below w.heap.size w wr
set_option maxHeartbeats 4000000 in
theorem oclone_any (N : Nat) : ∀ (r : Rx), r.size ≤ N → ∀ (ok : Nat → Prop) (v : Value) (w : World), ReAt ok w v r →
    Calls Tryz.prog 102 #[v] w (NewPost r w) := by
  induction N with
  | zero => intro r h; have := r.size_pos; omega
  | succ N ih =>
    rintro ⟨k, s, ks⟩ hN ok v w hR
    obtain ⟨hk, hs, al, cap, rfl, hcap, hmax, hrow⟩ := hR
    have hN' : Rx.sizes ks ≤ N := by simp [Rx.size] at hN; omega
    have IH := Lib.hid ih
    have HR := Lib.hid hrow
    obtain ⟨sa, sb, sc, sd⟩ := s
    clear ih hrow hN
    by_cases hks : ks = []
    · subst hks
      go_enter Tryz.func102, Tryz.ntmps102
      go_wp2
      refine ret_re (blk_at _ _ (by simp)) Tryz.results102 rfl rfl ⟨_, rfl, ?_, ((Below.refl _ w).alloc (Nat.le_refl _) _).alloc (by simp) _⟩
      exact bareAt _ _ k ⟨sa, sb, sc, sd⟩ hk hs
    · have hpos : 0 < ks.length := List.length_pos_iff.2 hks
      have e0 : ((ks.length : Int) == 0) = false := by simp; omega
      have hmk := make_re ks.length hmax
      clear hks
      go_enter Tryz.func102, Tryz.ntmps102
      go_wp2
      go_loopw [19] (fun y wr => ocloneInv k sa sb sc sd (.slice al ks.length cap) ks w y wr) (fun y _ => ks.length - (intOf y).toNat)
      case atStart =>
        refine ⟨0, Nat.zero_le _, rfl, ?_, ?_, ?_, by simp only [List.take_zero]; unfold NodesAt; trivial, (((Below.refl _ w).alloc (Nat.le_refl _) _).alloc (by simp) _).alloc (by simp; omega) _⟩
        · exact (Below.heap_alloc _ _ _ (by simp; omega)).trans ((Below.heap_alloc _ _ _ (by simp)).trans (blk_new w _))
        · exact (Below.heap_alloc _ _ _ (by simp)).trans (blk_at _ _ (by simp))
        · have := room_made ((w.alloc (oreBlk k sa sb sc sd (.slice al ks.length cap))).alloc onilBlk) zeroR (ks.length * 6)
          simpa [oreBlk, onilBlk] using this
      case round =>
        obtain ⟨i, hi, rfl, hb0, hb1, hroom, hnodes, hb⟩ := hrel
        have HB0 := Lib.hid hb0
        have HB1 := Lib.hid hb1
        have HN := Lib.hid hnodes
        have HM := Lib.hid hroom
        clear hb0 hb1 hnodes hroom
        by_cases hlt : i < ks.length
        · obtain ⟨b, off, hab, hblt, hnode⟩ := HR.out.kid hlt
          subst hab
          have hkid := NodeAt.below hb _ hblt hnode
          have hkz := size_kid hlt
          have htk : ks.take (i + 1) = ks.take i ++ [ks[i]] := List.take_succ_eq_append_getElem hlt
          have hlen : (ks.take i).length = i := by simp; omega
          have HTK := Lib.hid htk
          have HLEN := Lib.hid hlen
          clear htk hlen
          generalize ks[i] = kid at *
          obtain ⟨k', ⟨ta, tb, tc, td⟩, ks'⟩ := kid
          obtain ⟨al', cap', ⟨c0, c1, c2, c3, c4, c5⟩, hre⟩ := hkid.read
          simp only at c0 c1 c2 c3 c4 c5
          have HRE := Lib.hid hre
          clear hkid hnode hre
          go_wp2_with fail
          refine (IH.out _ (by omega) ok _ _ (HRE.out.below ((Below.refl _ wr).alloc (Nat.le_refl _) _))).mono ?_
          rintro e w3 ⟨v, rfl, hv, hb3⟩
          obtain ⟨x0, x1, x2, x3, x4, bl, n', cp, rfl⟩ := cells_re hv
          have hgk := HM.out.lt
          have hbr : Below wr.heap.size wr w3 := ((Below.refl _ wr).alloc (Nat.le_refl _) _).trans (hb3.mono (by simp))
          have hroom : Room w3 (w.heap.size + 1 + 1) (ks.length * 6) := HM.out.of (hbr.block _ hgk)
          have hnodes : NodesAt (New (w.heap.size + 3)) w3 (w.heap.size + 1 + 1) 0 (ks.take i) := NodesAt.below hbr _ hgk HN.out
          have hv3 := hv.imp (ok' := New (w.heap.size + 3)) fun b _ h => by
            unfold New at h ⊢; simp at h; omega
          have hlen := HLEN.out
          have hpush := nodes_push hroom (by rw [hlen]; omega) (by unfold New; omega) hnodes hv3
          rw [hlen, ← HTK.out] at hpush
          have hput := (put6_at hroom (off := i * 6) (by omega) (.int .u8 x0) (.int .u64 x1) (.int .u64 x2) (.int .u64 x3) (.int .u64 x4) (.slice bl n' cp)).1
          have hbp := put6_below (hb.trans (hbr.mono hb.size)) (g := w.heap.size + 1 + 1) (by omega) (i * 6) (.int .u8 x0) (.int .u64 x1) (.int .u64 x2) (.int .u64 x3) (.int .u64 x4) (.slice bl n' cp)
          have ho := fun b (h : b ≠ w.heap.size + 1 + 1) => put6_other w3 (w.heap.size + 1 + 1) (i * 6) (.int .u8 x0) (.int .u64 x1) (.int .u64 x2) (.int .u64 x3) (.int .u64 x4) (.slice bl n' cp) h
          have h0 := (ho w.heap.size (by omega)).trans ((hbr.block _ (by omega)).trans HB0.out)
          have h1 := (ho (w.heap.size + 1) (by omega)).trans ((hbr.block _ (by omega)).trans HB1.out)
          obtain ⟨⟨z0, q0⟩, f0⟩ := hroom.cells (i * 6) (by omega)
          obtain ⟨⟨z1, q1⟩, f1⟩ := hroom.cells (i * 6 + 1) (by omega)
          obtain ⟨⟨z2, q2⟩, f2⟩ := hroom.cells (i * 6 + 2) (by omega)
          obtain ⟨⟨z3, q3⟩, f3⟩ := hroom.cells (i * 6 + 3) (by omega)
          obtain ⟨⟨z4, q4⟩, f4⟩ := hroom.cells (i * 6 + 4) (by omega)
          obtain ⟨⟨z5, q5⟩, f5⟩ := hroom.cells (i * 6 + 5) (by omega)
          unfold put6 at hpush hput hbp h0 h1
          have HPUSH := Lib.hid hpush
          have HPUT := Lib.hid hput
          have HBP := Lib.hid hbp
          have H0 := Lib.hid h0
          have H1 := Lib.hid h1
          clear hv hb3 hbr hroom hnodes hv3 hlen hpush hput hbp ho h0 h1 c0 c1 c2 c3 c4 c5
          go_wp2
          exact ⟨⟨i + 1, by omega, by go_num, H0.out, H1.out, HPUT.out, HPUSH.out, HBP.out⟩, by simp [intOf]; omega⟩
        · have he : ks.take i = ks := List.take_of_length_le (by omega)
          rw [he] at HN
          obtain ⟨d0, d1, d2, d3, d4, d5, f0, f1, f2, f3, f4, f5⟩ := cellsR HB0.out
          obtain ⟨g0, g1, g2, g3, g4, g5, p0, p1, p2, p3, p4, p5⟩ := cellsR HB1.out
          have hgk := HM.out.lt
          have hb4 : (wr.setCell ⟨w.heap.size, 5, none⟩ (.slice (some ⟨w.heap.size + 1 + 1, 0, none⟩) ks.length ks.length)).heap[w.heap.size + 1]? = some onilBlk := (Below.heap_setCell _ _ _ _ (by simp)).trans HB1.out
          have hp := putR hb4 (.int .u8 k) (.int .u64 sa) (.int .u64 sb) (.int .u64 sc) (.int .u64 sd) (.slice (some ⟨w.heap.size + 1 + 1, 0, none⟩) ks.length ks.length)
          have hbb := putB (hb.setCell (p := ⟨w.heap.size, 5, none⟩) (Nat.le_refl _) (.slice (some ⟨w.heap.size + 1 + 1, 0, none⟩) ks.length ks.length)) (by omega : w.heap.size ≤ w.heap.size + 1) (.int .u8 k) (.int .u64 sa) (.int .u64 sb) (.int .u64 sc) (.int .u64 sd) (.slice (some ⟨w.heap.size + 1 + 1, 0, none⟩) ks.length ks.length)
          have hfar : ∀ b, b ≠ w.heap.size → b ≠ w.heap.size + 1 → (putW (wr.setCell ⟨w.heap.size, 5, none⟩ (.slice (some ⟨w.heap.size + 1 + 1, 0, none⟩) ks.length ks.length)) (w.heap.size + 1) (.int .u8 k) (.int .u64 sa) (.int .u64 sb) (.int .u64 sc) (.int .u64 sd) (.slice (some ⟨w.heap.size + 1 + 1, 0, none⟩) ks.length ks.length)).heap[b]? = wr.heap[b]? := by
            intro b n0 n1
            unfold putW
            rw [Below.heap_setCell _ _ _ _ n1, Below.heap_setCell _ _ _ _ n1, Below.heap_setCell _ _ _ _ n1, Below.heap_setCell _ _ _ _ n1, Below.heap_setCell _ _ _ _ n1, Below.heap_setCell _ _ _ _ n1, Below.heap_setCell _ _ _ _ n0]
          have hsz : (putW (wr.setCell ⟨w.heap.size, 5, none⟩ (.slice (some ⟨w.heap.size + 1 + 1, 0, none⟩) ks.length ks.length)) (w.heap.size + 1) (.int .u8 k) (.int .u64 sa) (.int .u64 sb) (.int .u64 sc) (.int .u64 sd) (.slice (some ⟨w.heap.size + 1 + 1, 0, none⟩) ks.length ks.length)).heap.size = wr.heap.size := by simp [putW, World.setCell]
          have hrow : RowAt (New w.heap.size) (putW (wr.setCell ⟨w.heap.size, 5, none⟩ (.slice (some ⟨w.heap.size + 1 + 1, 0, none⟩) ks.length ks.length)) (w.heap.size + 1) (.int .u8 k) (.int .u64 sa) (.int .u64 sb) (.int .u64 sc) (.int .u64 sd) (.slice (some ⟨w.heap.size + 1 + 1, 0, none⟩) ks.length ks.length)) (some ⟨w.heap.size + 1 + 1, 0, none⟩) ks := by
            refine .inr ⟨_, _, rfl, by rw [hsz]; exact hgk, by unfold New; omega, NodesAt.go (ok := New (w.heap.size + 3)) ⟨by rw [hsz]; exact Nat.le_refl _, fun b _ h => ?_⟩ ks (hfar _ (by omega) (by omega)) HN.out⟩
            unfold New at h
            exact ⟨by unfold New; omega, hfar b (by omega) (by omega)⟩
          unfold putW at hp hbb hrow
          have HP := Lib.hid hp
          have HBB := Lib.hid hbb
          have HROW := Lib.hid hrow
          clear hp hbb hrow hfar hsz hb4
          go_wp2
          exact ret_re HP.out Tryz.results102 rfl rfl ⟨_, rfl, ⟨hk, hs, _, _, rfl, Nat.le_refl _, hmax, HROW.out⟩, HBB.out⟩
theorem ocloneR (r : Rx) {ok : Nat → Prop} (v : Value) (w : World) (h : ReAt ok w v r) : Calls Tryz.prog 102 #[v] w (NewPost r w) := oclone_any r.size r (Nat.le_refl _) ok v w h
end Go.Proofs.YtiegejbbjlhpdaaGreatDoor
/- Lemmas of mine. -/
namespace Go.Proofs.YtiegejbbjlhpdaaGreatDoor
theorem segL_le (x n : Nat) (h : 0 < n) : (segL x n).length ≤ 2 * (n + 1) := by
  have h1 := (signL_length x).1
  unfold segL
  split
  · rename_i h3
    have h2 := (signL_length (x + n - 1)).1
    simp only [List.length_append, List.length_cons]
    omega
  · split
    · rename_i h2
      have h3 := (signL_length (x + 1)).1
      simp only [List.length_append]
      omega
    · omega
theorem run_gap (x : Nat) : ∀ (l : List Nat), (x :: l).Pairwise (· < ·) → ∀ y ∈ l.drop (runFrom x l), x + runFrom x l + 2 ≤ y := by
  intro l
  induction l generalizing x with
  | nil => intro _ y hy; simp at hy
  | cons z t ih =>
    intro hp y hy
    have hxz : x < z := by
      have := (List.pairwise_cons.1 hp).1 z (by simp)
      exact this
    have hp' := (List.pairwise_cons.1 hp).2
    unfold runFrom at hy ⊢
    by_cases hz : z = x + 1
    · rw [if_pos hz] at hy ⊢
      subst hz
      rw [Nat.add_comm 1, List.drop_succ_cons] at hy
      have := ih (x + 1) hp' y hy
      omega
    · rw [if_neg hz] at hy ⊢
      simp only [List.drop_zero] at hy
      rcases List.mem_cons.1 hy with rfl | hy
      · omega
      · have := (List.pairwise_cons.1 hp').1 y hy
        omega
theorem textOf_le : ∀ (k : Nat) (l : List Nat) (lo : Nat), l.length ≤ k → l.Pairwise (· < ·) → (∀ y ∈ l, lo ≤ y ∧ y < 256) → lo ≤ 257 → (textOf l).length ≤ 2 * (257 - lo)
  | _, [], lo, _, _, _, _ => by rw [textOf_nil]; simp
  | 0, y :: l, _, h, _, _, _ => by simp at h
  | k + 1, y :: l, lo, h, hp, hl, hlo => by
    rw [textOf_cons, List.length_append]
    have h1 := segL_le y (1 + runFrom y l) (by omega)
    have hr := runFrom_le y l
    have hgap := run_gap y l hp
    have hy := hl y (by simp)
    have hyr : y + runFrom y l < 256 := by
      have ht := runFrom_take y l
      generalize runFrom y l = r at *
      cases r with
      | zero => exact hy.2
      | succ q =>
        have hm : y + 1 + q ∈ l.take (q + 1) := by rw [ht]; simp
        have := (hl _ (List.mem_cons_of_mem _ (List.mem_of_mem_take hm))).2
        omega
    have ih := textOf_le k (l.drop (runFrom y l)) (y + runFrom y l + 2) (by simp only [List.length_drop, List.length_cons] at h ⊢; omega) ((List.pairwise_cons.1 hp).2.drop) (fun z hz => ⟨hgap z hz, (hl z (List.mem_cons_of_mem _ (List.mem_of_mem_drop hz))).2⟩) (by omega)
    omega
theorem textW_le (s : Ws) : (textW s).length ≤ 516 := by
  unfold textW
  split
  · simp
  · split
    · have := (signL_length ((bytesN s).headD 0)).1; omega
    · have hp : (bytesN s).Pairwise (· < ·) := List.Pairwise.filter _ List.pairwise_lt_range
      have := textOf_le _ (bytesN s) 0 (Nat.le_refl _) hp (fun y hy => ⟨Nat.zero_le _, bytesN_lt s y hy⟩) (by omega)
      simp only [List.length_cons, List.length_append, List.length_nil]
      omega
def Ex.leaves : Ex → Nat
  | .empty => 1
  | .eps => 1
  | .cls _ => 1
  | .seq a b => a.leaves + b.leaves
  | .alt a b => a.leaves + b.leaves
  | .star a => a.leaves
theorem leaves_le : ∀ e : Ex, 2 * e.leaves ≤ e.size + 1
  | .empty => by simp [Ex.leaves, Ex.size]
  | .eps => by simp [Ex.leaves, Ex.size]
  | .cls _ => by simp [Ex.leaves, Ex.size]
  | .seq a b => by have := leaves_le a; have := leaves_le b; simp only [Ex.leaves, Ex.size]; omega
  | .alt a b => by have := leaves_le a; have := leaves_le b; simp only [Ex.leaves, Ex.size]; omega
  | .star a => by have := leaves_le a; simp only [Ex.leaves, Ex.size]; omega
theorem item_le (e : Ex) : e.item.length ≤ e.text.length + 2 := round_length _ _
theorem part_le (e : Ex) : e.part.length ≤ e.text.length + 2 := round_length _ _
theorem text_le : ∀ e : Ex, e.text.length ≤ 516 * e.leaves + 4 * e.size
  | .empty => by simp [Ex.text, Ex.leaves, Ex.size]
  | .eps => by simp [Ex.text, Ex.leaves, Ex.size]
  | .cls s => by
    have := textW_le s
    show (textW s).length ≤ _
    simp only [Ex.leaves, Ex.size]; omega
  | .seq a b => by
    have h1 := text_le a; have h2 := text_le b; have h3 := item_le a; have h4 := part_le b
    rw [text_seq, List.length_append]
    simp only [Ex.leaves, Ex.size]; omega
  | .alt a b => by
    have h1 := text_le a; have h2 := text_le b; have h3 := part_le a
    rw [text_alt, List.length_append, List.length_cons]
    simp only [Ex.leaves, Ex.size]; omega
  | .star a => by
    have h1 := text_le a; have h3 := item_le a
    rw [text_star, List.length_append]
    simp only [Ex.leaves, Ex.size, List.length_cons, List.length_nil]; omega
theorem text_200 {e : Ex} (h : e.size ≤ 200) : e.text.length ≤ 65536 := by
  have h1 := text_le e
  have h2 := leaves_le e
  omega
open Go.RowKit
def OwnO (ok : Nat → Prop) (n g b : Nat) : Prop := (ok b ∧ b < n) ∨ (n + 1 ≤ b ∧ b ≠ g)
def rchInv (ok : Nat → Prop) (k o : Nat) (l : List Rx) (w : World) (g : Nat) (y : Value) (wr : World) : Prop := ∃ (j : Nat) (v : Value) (x0 x1 x2 x3 x4 : Int) (al : Option Addr) (n cap : Nat), j < l.length ∧ y = .int .i64 ((j : Int) - 1) ∧
  v = .agg #[.int .u8 x0, .int .u64 x1, .int .u64 x2, .int .u64 x3, .int .u64 x4, .slice al n cap] ∧
  wr.heap[g]? = some (.cells #[.int .u8 x0, .int .u64 x1, .int .u64 x2, .int .u64 x3, .int .u64 x4, .slice al n cap] 27) ∧ wr.heap[w.heap.size]? = some nilBlk ∧
  ReAt (OwnO ok w.heap.size g) wr v (foldR k o (l.drop j)) ∧ Below w.heap.size w wr
theorem rch_step {ok : Nat → Prop} {n0 g k : Nat} {w wr : World} {z0 z1 z2 z3 z4 z5 y0 y1 y2 y3 y4 y5 : Value} {r t : Rx} (hk : k < 256) (hn0 : n0 + 1 ≤ g)
    (hG : wr.heap[g]? = some (.cells #[y0, y1, y2, y3, y4, y5] 27)) (hN : wr.heap[n0]? = some nilBlk) (hv : ReAt (OwnO ok n0 g) wr (.agg #[y0, y1, y2, y3, y4, y5]) t)
    (hv2 : ReAt (OwnO ok n0 g) wr (.agg #[z0, z1, z2, z3, z4, z5]) r) (hb : Below n0 w wr) :
    (chainW wr g k z0 z1 z2 z3 z4 z5 y0 y1 y2 y3 y4 y5).heap[g]? = some (.cells #[.int .u8 k, .int .u64 0, .int .u64 0, .int .u64 0, .int .u64 0, .slice (some ⟨wr.heap.size, 0, none⟩) 2 2] 27) ∧
    (chainW wr g k z0 z1 z2 z3 z4 z5 y0 y1 y2 y3 y4 y5).heap[n0]? = some nilBlk ∧
    ReAt (OwnO ok n0 g) (chainW wr g k z0 z1 z2 z3 z4 z5 y0 y1 y2 y3 y4 y5) (.agg #[.int .u8 k, .int .u64 0, .int .u64 0, .int .u64 0, .int .u64 0, .slice (some ⟨wr.heap.size, 0, none⟩) 2 2]) (.node k Ws.nil [r, t]) ∧
    Below n0 w (chainW wr g k z0 z1 z2 z3 z4 z5 y0 y1 y2 y3 y4 y5) := by
  have hg : g < wr.heap.size := (Array.getElem?_eq_some_iff.1 hG).1
  have hsz := putW_size wr g (.int .u8 k) (.int .u64 0) (.int .u64 0) (.int .u64 0) (.int .u64 0) (.slice (some ⟨wr.heap.size, 0, none⟩) 2 2)
  have hold : ∀ b, b < wr.heap.size → b ≠ g → (chainW wr g k z0 z1 z2 z3 z4 z5 y0 y1 y2 y3 y4 y5).heap[b]? = wr.heap[b]? := fun b h1 h2 =>
    (Below.heap_alloc _ _ _ (by rw [hsz]; exact h1)).trans (putW_other _ _ _ _ _ _ _ _ h2)
  have hsize : wr.heap.size ≤ (chainW wr g k z0 z1 z2 z3 z4 z5 y0 y1 y2 y3 y4 y5).heap.size := by
    unfold chainW; rw [World.size_alloc, hsz]; omega
  have hkept : Kept (OwnO ok n0 g) (OwnO ok n0 g) wr (chainW wr g k z0 z1 z2 z3 z4 z5 y0 y1 y2 y3 y4 y5) := ⟨hsize, fun b h1 h2 => ⟨h2, hold b h1 (by
    rcases h2 with h2 | h2
    · omega
    · exact h2.2)⟩⟩
  refine ⟨(Below.heap_alloc _ _ _ (by rw [hsz]; omega)).trans (putR hG _ _ _ _ _ _), (hold n0 (by omega) (by omega)).trans hN, ?_, ?_⟩
  · exact ⟨hk, Ws.nil_ok, _, _, rfl, Nat.le_refl _, by simp, row_two (blk_at _ _ hsz.symm) (.inr (by omega)) (hv2.go hkept) (hv.go hkept)⟩
  · exact (putB hb (by omega : n0 ≤ g) _ _ _ _ _ _).alloc (by rw [hsz]; omega) _
theorem drew_hp (w : World) : w.drew.heap = w.heap := rfl
theorem rch_stepD {ok : Nat → Prop} {n0 g k : Nat} {w wr : World} {z0 z1 z2 z3 z4 z5 y0 y1 y2 y3 y4 y5 : Value} {r t : Rx} (hk : k < 256) (hn0 : n0 + 1 ≤ g)
    (hG : wr.heap[g]? = some (.cells #[y0, y1, y2, y3, y4, y5] 27)) (hN : wr.heap[n0]? = some nilBlk) (hv : ReAt (OwnO ok n0 g) wr (.agg #[y0, y1, y2, y3, y4, y5]) t)
    (hv2 : ReAt (OwnO ok n0 g) wr (.agg #[z0, z1, z2, z3, z4, z5]) r) (hb : Below n0 w wr) :
    (chainW wr g k z0 z1 z2 z3 z4 z5 y0 y1 y2 y3 y4 y5).drew.heap[g]? = some (.cells #[.int .u8 k, .int .u64 0, .int .u64 0, .int .u64 0, .int .u64 0, .slice (some ⟨wr.heap.size, 0, none⟩) 2 2] 27) ∧
    (chainW wr g k z0 z1 z2 z3 z4 z5 y0 y1 y2 y3 y4 y5).drew.heap[n0]? = some nilBlk ∧
    ReAt (OwnO ok n0 g) (chainW wr g k z0 z1 z2 z3 z4 z5 y0 y1 y2 y3 y4 y5).drew (.agg #[.int .u8 k, .int .u64 0, .int .u64 0, .int .u64 0, .int .u64 0, .slice (some ⟨wr.heap.size, 0, none⟩) 2 2]) (.node k Ws.nil [r, t]) ∧
    Below n0 w (chainW wr g k z0 z1 z2 z3 z4 z5 y0 y1 y2 y3 y4 y5).drew := by
  obtain ⟨s1, s2, s3, s4⟩ := rch_step hk hn0 hG hN hv hv2 hb
  exact ⟨by rw [drew_hp]; exact s1, by rw [drew_hp]; exact s2, s3.below (Below.refl _ _).drew, s4.drew⟩
theorem box_box {w : World} {o : Obj} : (w.alloc nilBlk |>.alloc o).heap[w.heap.size]? = some nilBlk := (Below.heap_alloc _ _ _ (by simp)).trans (blk_new w _)
def RowN (ok : Nat → Prop) (w : World) (al : Option Addr) (l : List Rx) : Prop := ∃ b off, al = some ⟨b, off, none⟩ ∧ b < w.heap.size ∧ NodesAt ok w b off l
theorem RowN.kid {ok : Nat → Prop} {w : World} {al : Option Addr} {ks : List Rx} (h : RowN ok w al ks) {i : Nat} (hi : i < ks.length) : ∃ b off, al = some ⟨b, off, none⟩ ∧ b < w.heap.size ∧ NodeAt ok w b (off + i * 6) ks[i] := by
  obtain ⟨b, off, e, hlt, h⟩ := h
  exact ⟨b, off, e, hlt, nodesAt_get h i hi⟩
theorem RowN.below {ok : Nat → Prop} {w w' : World} {al : Option Addr} {ks : List Rx} (h : RowN ok w al ks) (hb : Below w.heap.size w w') : RowN ok w' al ks := by
  obtain ⟨b, off, e, hlt, h⟩ := h
  exact ⟨b, off, e, Nat.lt_of_lt_of_le hlt hb.size, NodesAt.below hb ks hlt h⟩
theorem fold_foldE (k o : Nat) (f : Ex → Ex → Ex) (hf : ∀ a b, (f a b).rx = .node k Ws.nil [a.rx, b.rx]) : ∀ l : List Ex, l ≠ [] → foldR k o (l.map Ex.rx) = (foldE f l).rx
  | [], h => absurd rfl h
  | [e], _ => rfl
  | e :: e' :: l, _ => by
    have := fold_foldE k o f hf (e' :: l) (by simp)
    show Rx.node k Ws.nil [e.rx, foldR k o ((e' :: l).map Ex.rx)] = _
    rw [this]
    exact (hf _ _).symm
set_option maxHeartbeats 4000000 in
theorem rchain_any {ok : Nat → Prop} (k o : Nat) (l : List Rx) (al : Option Addr) (cap : Nat) (w : World) (hk : k < 256) (hlen : l.length < 2199023255552) (hl : l ≠ []) (h : RowN ok w al l) :
    Calls Tryz.prog 49 #[.int .u8 k, .slice al l.length cap] w (RePost (fun b => ok b ∧ b < w.heap.size) (foldR k o l) w) := by
  have HR := Lib.hid h
  clear h
  have hpos : 0 < l.length := List.length_pos_iff.2 hl
  obtain ⟨b, off, hab, hblt, hnode⟩ := HR.out.kid (i := l.length - 1) (by omega)
  subst hab
  have hb0 := (Below.refl _ w).alloc (Nat.le_refl _) nilBlk
  have hkid := NodeAt.below hb0 _ hblt hnode
  have hdrop : l.drop (l.length - 1) = [l[l.length - 1]'(by omega)] := by
    rw [List.drop_eq_getElem_cons (by omega), List.drop_of_length_le (by omega)]
  have HD := Lib.hid hdrop
  clear hdrop hl
  generalize l[l.length - 1]'(by omega) = kid at *
  obtain ⟨k', ⟨ta, tb, tc, td⟩, ks'⟩ := kid
  obtain ⟨al', cap', ⟨c0, c1, c2, c3, c4, c5⟩, -⟩ := hkid.read
  obtain ⟨al'', cap'', ⟨c0', c1', c2', c3', c4', c5'⟩, hre⟩ := hnode.read
  have e5 := (World.cell?_of_block (w := w) (a := ⟨b, off + (l.length - 1) * 6 + 5, none⟩) (hb0.block b hblt)).symm.trans c5
  rw [c5'] at e5
  simp at e5
  obtain ⟨rfl, rfl⟩ := e5
  simp only at c0 c1 c2 c3 c4 c5
  unfold nilBlk at c0 c1 c2 c3 c4 c5
  have HRE := Lib.hid hre
  clear hkid hnode hre c0' c1' c2' c3' c4' c5'
  have q1 : (l.length : Int) - 1 = ((l.length - 1 : Nat) : Int) := by omega
  have q2 : ((l.length - 1 : Nat) : Int) < (l.length : Int) := by omega
  go_enter Tryz.func49, Tryz.ntmps49
  go_wp2
  go_loopw [7] (fun y wr => rchInv ok k o l w (w.heap.size + 1) y wr) (fun y _ => (intOf y + 1).toNat)
  case atStart =>
    refine ⟨l.length - 1, _, _, _, _, _, _, _, _, _, by omega, ?_, rfl, blk_at _ _ (by simp), box_box, ?_, hb0.alloc (by simp) _⟩
    · first | rfl | (congr 1; omega)
    · rw [HD.out]
      exact HRE.out.go ⟨by simp; omega, fun b hb h => ⟨.inl ⟨h, hb⟩, (Below.heap_alloc _ _ _ (by simp; omega)).trans (Below.heap_alloc _ _ _ hb)⟩⟩
  case round =>
    obtain ⟨j, v, y0, y1, y2, y3, y4, yl, yn, yc, hj, rfl, rfl, hg, hn, hv, hb⟩ := hrel
    have HG := Lib.hid hg
    have HN := Lib.hid hn
    have HV' := Lib.hid hv
    clear hg hn hv HD HRE c0 c1 c2 c3 c4 c5
    have hgs := (Array.getElem?_eq_some_iff.1 HG.out).1
    by_cases hj0 : j = 0
    · subst hj0
      obtain ⟨d0, e1, e2, e3, e4, e5, f0, f1, f2, f3, f4, f5⟩ := cellsR HG.out
      obtain ⟨g0, g1, g2, g3, g4, g5, p0, p1, p2, p3, p4, p5⟩ := cellsR HN.out
      have hp := putR HN.out (.int .u8 y0) (.int .u64 y1) (.int .u64 y2) (.int .u64 y3) (.int .u64 y4) (.slice yl yn yc)
      have hbb := putB hb (Nat.le_refl w.heap.size) (.int .u8 y0) (.int .u64 y1) (.int .u64 y2) (.int .u64 y3) (.int .u64 y4) (.slice yl yn yc)
      have hre : ReAt (fun b => (ok b ∧ b < w.heap.size) ∨ w.heap.size ≤ b) (putW wr w.heap.size (.int .u8 y0) (.int .u64 y1) (.int .u64 y2) (.int .u64 y3) (.int .u64 y4) (.slice yl yn yc)) (.agg #[.int .u8 y0, .int .u64 y1, .int .u64 y2, .int .u64 y3, .int .u64 y4, .slice yl yn yc]) (foldR k o l) := by
        have h := HV'.out
        rw [List.drop_zero] at h
        refine h.go ⟨by rw [putW_size]; exact Nat.le_refl _, fun b _ hb => ?_⟩
        rcases hb with hb | hb
        · exact ⟨.inl hb, putW_other _ _ _ _ _ _ _ _ (by omega)⟩
        · exact ⟨.inr (by omega), putW_other _ _ _ _ _ _ _ _ (by omega)⟩
      unfold putW at hp hbb hre
      have HP := Lib.hid hp
      have HBB := Lib.hid hbb
      have HRE := Lib.hid hre
      clear hp hbb hre
      go_wp2
      exact ret_re HP.out Tryz.results49 rfl rfl ⟨_, rfl, HRE.out, HBB.out⟩
    · have d1 : decide (0 ≤ (j : Int) - 1) = true := by simp; omega
      obtain ⟨b2, off2, hab2, hblt2, hnode2⟩ := HR.out.kid (i := j - 1) (by omega)
      simp at hab2
      obtain ⟨rfl, rfl⟩ := hab2
      have hkid2 := NodeAt.go (ok := ok) (ok' := OwnO ok w.heap.size (w.heap.size + 1)) ⟨hb.size, fun b hb' h => ⟨.inl ⟨h, hb'⟩, hb.block b hb'⟩⟩ _ (hb.block _ hblt2) hnode2
      have hdrop : l.drop (j - 1) = l[j - 1]'(by omega) :: l.drop j := by
        rw [List.drop_eq_getElem_cons (by omega)]; congr 2; omega
      have hne : l.drop j ≠ [] := by simp; omega
      have hfo := foldR_cons k o (l[j - 1]'(by omega)) hne
      rw [← hdrop] at hfo
      have HFO := Lib.hid hfo
      clear hdrop hne hfo hnode2
      generalize l[j - 1]'(by omega) = kid2 at *
      obtain ⟨k2, ⟨sa, sb, sc, sd⟩, ks2⟩ := kid2
      obtain ⟨al2, cap2, ⟨c0, c1, c2, c3, c4, c5⟩, hre⟩ := hkid2.read
      simp only at c0 c1 c2 c3 c4 c5
      have HRE := Lib.hid hre
      clear hkid2 hre
      have r1 : (j : Int) - 1 = ((j - 1 : Nat) : Int) := by omega
      have r2 : ((j - 1 : Nat) : Int) < (l.length : Int) := by omega
      obtain ⟨d0, e1, e2, e3, e4, e5, f0, f1, f2, f3, f4, f5⟩ := cellsR HG.out
      go_wp2_with fail
      go_region
      obtain ⟨s1, s2, s3, s4⟩ := rch_stepD (k := k) hk (Nat.le_refl _) HG.out HN.out HV'.out HRE.out hb
      have HS1 := Lib.hid s1
      have HS2 := Lib.hid s2
      have HS3 := Lib.hid s3
      have HS4 := Lib.hid s4
      unfold chainW putW at HS1 HS2 HS3 HS4
      clear s1 s2 s3 s4
      go_wp2
      refine ⟨⟨j - 1, _, k, 0, 0, 0, 0, _, 2, 2, by omega, ?_, rfl, HS1.out, HS2.out, ?_, HS4.out⟩, ?_⟩
      · first | rfl | (congr 1; omega)
      · rw [HFO.out]; exact HS3.out
      · simp [intOf]; omega
end Go.Proofs.YtiegejbbjlhpdaaGreatDoor
