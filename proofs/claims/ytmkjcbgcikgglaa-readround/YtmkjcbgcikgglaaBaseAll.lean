/- Lemmas of mine, merged: Base, BytesT, OwnT, NumNameA. -/
import Derived.WalkKit
import Derived.WalkSpells
import Derived.WalkLawsBesides
import Derived.Lib.OthersKept
import Derived.Lib.Hide
import Derived.Test.YtmkjcbgcikgglaaRows
import Derived.OwnWalk
import Derived.Laws.BytesString
import Derived.Laws.IdiomStrings
/- What every text of mine imports. -/
/- A slice of bytes in memory. -/
namespace Go.Proofs.Ytmkjcbgcikgglaa
open Go.RowKit
/-- A slice of bytes that was there: empty, or a row of cells in a block that was there. -/
def BytesAt (w : World) (a : Option Addr) (l : List UInt8) : Prop :=
  l.length ≤ maxLen ∧ (l = [] ∨ ∃ b off, a = some ⟨b, off, none⟩ ∧ b < w.heap.size ∧ ∀ i (h : i < l.length), w.cell? ⟨b, off + i, none⟩ = some (.int .u8 l[i].toNat))
theorem BytesAt.below {w w' : World} {a : Option Addr} {l : List UInt8} (h : BytesAt w a l) (hb : Below w.heap.size w w') : BytesAt w' a l := by
  obtain ⟨h2, h3⟩ := h
  refine ⟨h2, ?_⟩
  rcases h3 with h3 | ⟨b, off, rfl, hlt, hc⟩
  · exact .inl h3
  · exact .inr ⟨b, off, rfl, Nat.lt_of_lt_of_le hlt hb.size, fun i h => by rw [hb.cell (p := ⟨b, off + i, none⟩) hlt]; exact hc i h⟩
end Go.Proofs.Ytmkjcbgcikgglaa
/- Slices of bytes of a call's own. -/
namespace Go.Proofs.Ytmkjcbgcikgglaa
open Go.RowKit
/-- A slice of bytes comes back. -/
def BytesRet (l : List UInt8) (w : World) (e : Ending) (w' : World) : Prop := ∃ a cap, e = .returned (.slice a l.length cap) ∧ l.length ≤ cap ∧ Below w.heap.size w w' ∧ BytesAt w' a l
theorem ret_bytes {w : World} {B : Nat} {v : Value} {l : List UInt8} (h : w.ownsRow B 5 1 v l.length (Lib.byteCells l)) : ∃ a cap, v = .slice a l.length cap ∧ l.length ≤ cap ∧ BytesAt w a l := by
  obtain ⟨_, ⟨rfl, h0⟩ | ⟨g, cap, cur, rfl, _, hg, hn, hm, hs, ht⟩⟩ := h
  · refine ⟨none, 0, by rw [h0], by omega, ?_⟩
    have : l = [] := List.eq_nil_of_length_eq_zero h0
    subst this; exact ⟨by simp, .inl rfl⟩
  · refine ⟨_, _, rfl, hn, by omega, .inr ⟨g, 0, rfl, ?_, ?_⟩⟩
    · rcases Nat.lt_or_ge g w.heap.size with h' | h'
      · exact h'
      · simp [Array.getElem?_eq_none h'] at hg
    · intro i hi
      have e : (cur.toList.take (l.length * 1))[i]? = (Lib.byteCells l)[i]? := by rw [ht]
      rw [List.getElem?_take, if_pos (by omega)] at e
      simp only [World.cell?, hg, Nat.zero_add, Option.isSome_none, Bool.false_eq_true, if_false]
      rw [← Array.getElem?_toList, e]
      simp [Lib.byteCells, List.getElem?_eq_getElem hi]
theorem own_ge {w : World} {B : Nat} {v : Value} {n : Nat} {xs : List Value} (h : w.ownsRow B 5 1 v n xs) : ∀ g, v.ownBlock = some g → B ≤ g := by
  intro g hg
  obtain ⟨_, ⟨rfl, _⟩ | ⟨g', cap, cur, rfl, hB, _⟩⟩ := h
  · simp [Value.ownBlock] at hg
  · simp [Value.ownBlock] at hg; omega
theorem own_below {w w' : World} {B : Nat} {v : Value} {n : Nat} {xs : List Value} (h : w.ownsRow B 5 1 v n xs) (hb : Below w.heap.size w w') : w'.ownsRow B 5 1 v n xs := by
  obtain ⟨h1, h2⟩ := h
  refine ⟨h1, ?_⟩
  rcases h2 with h2 | ⟨g, cap, cur, rfl, hB, hg, hr⟩
  · exact .inl h2
  · exact .inr ⟨g, cap, cur, rfl, hB, (hb.block g (Array.getElem?_eq_some_iff.1 hg).1).trans hg, hr⟩
theorem new_block (w : World) (o : Obj) : (w.alloc o).heap[w.heap.size]? = some o := by
  show (w.heap.push o)[w.heap.size]? = some o
  simp
theorem conv_bytes {w : World} {a : Option Addr} {l : List UInt8} (h : BytesAt w a l) (cap : Nat) : (convert 41 9 (.slice a l.length cap)).run Try.prog w = .ok (.string ⟨l.toArray⟩) w := by
  obtain ⟨_, h3⟩ := h
  rcases h3 with rfl | ⟨b, off, rfl, _, hc⟩
  · rw [run_convert_bytes_string w _ _ _ _ _ _ Try.underlying41 Try.underlying5 Try.underlying9]
    cases a with
    | none => rfl
    | some a => rfl
  · exact run_convert_bytes_back w _ _ _ _ _ l Try.underlying41 Try.underlying5 Try.underlying9 fun j hj => by rw [Go.WideShapes.add_plain]; exact hc j hj
end Go.Proofs.Ytmkjcbgcikgglaa
namespace Go.Proofs.Ytmkjcbgcikgglaa
open Go.RowKit
def digB (r : Int) : Bool := decide (48 ≤ r ∧ r ≤ 57)
def lowB (r : Int) : Bool := decide (97 ≤ r ∧ r ≤ 122)
set_option maxHeartbeats 400000 in
theorem isDigit_any (r : Int) (w : World) :
    Calls Try.prog 78 #[.int .i32 r] w fun e w' => e = .returned (.bool (digB r)) ∧ w = w' := by
  by_cases h : 48 ≤ r
  · by_cases h2 : r ≤ 57
    · have e : digB r = true := by simp [digB]; omega
      rw [e]; clear e
      go_enter Try.func78, Try.ntmps78
      go_wp2
      go_ret
      exact ⟨rfl, rfl⟩
    · have e : digB r = false := by simp [digB]; omega
      rw [e]; clear e
      go_enter Try.func78, Try.ntmps78
      go_wp2
      go_ret
      exact ⟨rfl, rfl⟩
  · have e : digB r = false := by simp [digB]; omega
    rw [e]; clear e
    go_enter Try.func78, Try.ntmps78
    go_wp2
    go_ret
    exact ⟨rfl, rfl⟩
def chB (r : Int) : Bool := lowB r || digB r || r == 95
def headB : List UInt8 → Bool
  | [] => false
  | c :: _ => lowB c.toNat
def nameB (l : List UInt8) : Bool := decide (l.length ≤ 30) && headB l && l.all fun c => chB c.toNat
theorem str_ne (s : ByteArray) (h : s.size ≠ 0) : ¬ s.toList = [] ∧ s.toList.isEmpty = false := by
  have : ¬ s.toList = [] := by
    rw [ByteArray.toList_eq]; intro e; apply h
    have := congrArg List.length e; simpa using this
  exact ⟨this, by simpa using this⟩
theorem str_nil (s : ByteArray) (h : s.size = 0) : s.toList = [] ∧ s.toList.isEmpty = true := by
  have : s.toList = [] := by
    rw [ByteArray.toList_eq]; apply List.eq_nil_of_length_eq_zero; simpa using h
  exact ⟨this, by simpa using this⟩
theorem dec_high (s : ByteArray) (k : Nat) (h : k < s.size) (hc : ¬ (chB (s[k]'h).toNat = true ∧ (k = 0 → lowB (s[k]'h).toNat = true))) :
    (k = 0 ∧ lowB ((Utf8.decode s k).1 : Nat) = false) ∨ (k ≠ 0 ∧ lowB ((Utf8.decode s k).1 : Nat) = false ∧ digB ((Utf8.decode s k).1 : Nat) = false ∧ ((((Utf8.decode s k).1 : Nat) : Int) != 95) = true) := by
  have key : ∀ r : Nat, (r = (s[k]'h).toNat ∨ (128 ≤ r ∧ 128 ≤ (s[k]'h).toNat)) → (k = 0 ∧ lowB (r : Nat) = false) ∨ (k ≠ 0 ∧ lowB (r : Nat) = false ∧ digB (r : Nat) = false ∧ (((r : Nat) : Int) != 95) = true) := by
    intro r hr
    generalize (s[k]'h).toNat = c at *
    by_cases k0 : k = 0
    · left; refine ⟨k0, ?_⟩
      simp [k0, chB, lowB, digB] at hc ⊢; omega
    · right; refine ⟨k0, ?_⟩
      simp [k0, chB, lowB, digB] at hc ⊢; omega
  apply key
  by_cases ha : (s[k]'h).toNat < 128
  · left; rw [decode_ascii s k h ha]
  · right; exact ⟨(decode_high s k h (by omega)).1, by omega⟩
theorem nameB_long (s : ByteArray) (h : 30 < s.size) : nameB s.data.toList = false := by
  unfold nameB
  have : ¬ s.data.toList.length ≤ 30 := by simp; omega
  rw [decide_eq_false this]; rfl
theorem nameB_nil (s : ByteArray) (h : s.size = 0) : nameB s.data.toList = false := by
  have : s.data.toList = [] := by apply List.eq_nil_of_length_eq_zero; simpa using h
  rw [this]; rfl
theorem bget (s : ByteArray) (j : Nat) (_h : j < s.size) (h' : j < s.data.toList.length) : s.data.toList[j] = s[j] := rfl
theorem head_of (s : ByteArray) (h : 0 < s.size) : headB s.data.toList = lowB (s[0]'h).toNat := by
  have h' : 0 < s.data.toList.length := by simpa using h
  rw [← bget s 0 h h']
  generalize s.data.toList = l at *
  cases l with
  | nil => simp at h'
  | cons c t => rfl
theorem nameB_yes (s : ByteArray) (h1 : s.size ≤ 30) (h2 : headB s.data.toList = true) (h3 : ∀ j (hj : j < s.size), chB (s[j]'hj).toNat = true) : nameB s.data.toList = true := by
  unfold nameB
  rw [h2]
  have : s.data.toList.length ≤ 30 := by simpa using h1
  simp only [this, decide_true, Bool.true_and, List.all_eq_true]
  intro c hc
  obtain ⟨j, hj, rfl⟩ := List.getElem_of_mem hc
  exact h3 j (by simpa using hj)
theorem nameB_no (s : ByteArray) (k : Nat) (h : k < s.size) (hc : ¬ (chB (s[k]'h).toNat = true ∧ (k = 0 → lowB (s[k]'h).toNat = true))) : nameB s.data.toList = false := by
  rw [Bool.eq_false_iff]
  intro e
  unfold nameB at e
  simp only [Bool.and_eq_true, List.all_eq_true] at e
  obtain ⟨⟨_, e2⟩, e3⟩ := e
  apply hc
  have h' : k < s.data.toList.length := by simpa using h
  refine ⟨?_, ?_⟩
  · rw [← bget s k h h']; exact e3 _ (List.getElem_mem _)
  · rintro rfl; rw [head_of s h] at e2; exact e2
end Go.Proofs.Ytmkjcbgcikgglaa
