import Derived.Test.YtglllbolgahacaaDoorRows
import Derived.WalkKit
import Derived.WalkSpells
import Derived.WalkLawsBesides
import Derived.Lib.OthersKept
import Derived.Lib.Hide
namespace Go.Proofs.YtglllbolgahacaaDoor
open Go.RowKit
def digB (r : Int) : Bool := decide (48 ≤ r ∧ r ≤ 57)
def lowB (r : Int) : Bool := decide (97 ≤ r ∧ r ≤ 122)
set_option maxHeartbeats 400000 in
theorem isDigit_any (r : Int) (w : World) :
    Calls Tryd.prog 16 #[.int .i32 r] w fun e w' => e = .returned (.bool (digB r)) ∧ w = w' := by
  by_cases h : 48 ≤ r
  · by_cases h2 : r ≤ 57
    · have e : digB r = true := by simp [digB]; omega
      rw [e]; clear e
      go_enter Tryd.func16, Tryd.ntmps16
      go_wp2
      go_ret
      exact ⟨rfl, rfl⟩
    · have e : digB r = false := by simp [digB]; omega
      rw [e]; clear e
      go_enter Tryd.func16, Tryd.ntmps16
      go_wp2
      go_ret
      exact ⟨rfl, rfl⟩
  · have e : digB r = false := by simp [digB]; omega
    rw [e]; clear e
    go_enter Tryd.func16, Tryd.ntmps16
    go_wp2
    go_ret
    exact ⟨rfl, rfl⟩
set_option maxHeartbeats 400000 in
theorem isLetter_any (r : Int) (w : World) :
    Calls Tryd.prog 24 #[.int .i32 r] w fun e w' => e = .returned (.bool (lowB r)) ∧ w = w' := by
  by_cases h : 97 ≤ r
  · by_cases h2 : r ≤ 122
    · have e : lowB r = true := by simp [lowB]; omega
      rw [e]; clear e
      go_enter Tryd.func24, Tryd.ntmps24
      go_wp2
      go_ret
      exact ⟨rfl, rfl⟩
    · have e : lowB r = false := by simp [lowB]; omega
      rw [e]; clear e
      go_enter Tryd.func24, Tryd.ntmps24
      go_wp2
      go_ret
      exact ⟨rfl, rfl⟩
  · have e : lowB r = false := by simp [lowB]; omega
    rw [e]; clear e
    go_enter Tryd.func24, Tryd.ntmps24
    go_wp2
    go_ret
    exact ⟨rfl, rfl⟩
def chB (r : Int) : Bool := lowB r || digB r || r == 95
def headB : List UInt8 → Bool
  | [] => false
  | c :: _ => lowB c.toNat
def nameB (l : List UInt8) : Bool := decide (l.length ≤ 30) && headB l && l.all fun c => chB c.toNat
theorem str_ne (s : ByteArray) (h : s.size ≠ 0) : ¬ s.toList = [] ∧ s.toList.isEmpty = false := by
  have : ¬ s.toList = [] := by
    rw [ByteArray.toList_eq]; intro e; apply h
    have := congrArg List.length e; simpa using this
  exact ⟨this, by simpa using this⟩
theorem str_nil (s : ByteArray) (h : s.size = 0) : s.toList = [] ∧ s.toList.isEmpty = true := by
  have : s.toList = [] := by
    rw [ByteArray.toList_eq]; apply List.eq_nil_of_length_eq_zero; simpa using h
  exact ⟨this, by simpa using this⟩
theorem dec_high (s : ByteArray) (k : Nat) (h : k < s.size) (hc : ¬ (chB (s[k]'h).toNat = true ∧ (k = 0 → lowB (s[k]'h).toNat = true))) :
    (k = 0 ∧ lowB ((Utf8.decode s k).1 : Nat) = false) ∨ (k ≠ 0 ∧ lowB ((Utf8.decode s k).1 : Nat) = false ∧ digB ((Utf8.decode s k).1 : Nat) = false ∧ ((((Utf8.decode s k).1 : Nat) : Int) != 95) = true) := by
  have key : ∀ r : Nat, (r = (s[k]'h).toNat ∨ (128 ≤ r ∧ 128 ≤ (s[k]'h).toNat)) → (k = 0 ∧ lowB (r : Nat) = false) ∨ (k ≠ 0 ∧ lowB (r : Nat) = false ∧ digB (r : Nat) = false ∧ (((r : Nat) : Int) != 95) = true) := by
    intro r hr
    generalize (s[k]'h).toNat = c at *
    by_cases k0 : k = 0
    · left; refine ⟨k0, ?_⟩
      simp [k0, chB, lowB, digB] at hc ⊢; omega
    · right; refine ⟨k0, ?_⟩
      simp [k0, chB, lowB, digB] at hc ⊢; omega
  apply key
  by_cases ha : (s[k]'h).toNat < 128
  · left; rw [decode_ascii s k h ha]
  · right; exact ⟨(decode_high s k h (by omega)).1, by omega⟩
theorem nameB_long (s : ByteArray) (h : 30 < s.size) : nameB s.data.toList = false := by
  unfold nameB
  have : ¬ s.data.toList.length ≤ 30 := by simp; omega
  rw [decide_eq_false this]; rfl
theorem nameB_nil (s : ByteArray) (h : s.size = 0) : nameB s.data.toList = false := by
  have : s.data.toList = [] := by apply List.eq_nil_of_length_eq_zero; simpa using h
  rw [this]; rfl
theorem bget (s : ByteArray) (j : Nat) (_h : j < s.size) (h' : j < s.data.toList.length) : s.data.toList[j] = s[j] := rfl
theorem head_of (s : ByteArray) (h : 0 < s.size) : headB s.data.toList = lowB (s[0]'h).toNat := by
  have h' : 0 < s.data.toList.length := by simpa using h
  rw [← bget s 0 h h']
  generalize s.data.toList = l at *
  cases l with
  | nil => simp at h'
  | cons c t => rfl
theorem nameB_yes (s : ByteArray) (h1 : s.size ≤ 30) (h2 : headB s.data.toList = true) (h3 : ∀ j (hj : j < s.size), chB (s[j]'hj).toNat = true) : nameB s.data.toList = true := by
  unfold nameB
  rw [h2]
  have : s.data.toList.length ≤ 30 := by simpa using h1
  simp only [this, decide_true, Bool.true_and, List.all_eq_true]
  intro c hc
  obtain ⟨j, hj, rfl⟩ := List.getElem_of_mem hc
  exact h3 j (by simpa using hj)
theorem nameB_no (s : ByteArray) (k : Nat) (h : k < s.size) (hc : ¬ (chB (s[k]'h).toNat = true ∧ (k = 0 → lowB (s[k]'h).toNat = true))) : nameB s.data.toList = false := by
  rw [Bool.eq_false_iff]
  intro e
  unfold nameB at e
  simp only [Bool.and_eq_true, List.all_eq_true] at e
  obtain ⟨⟨_, e2⟩, e3⟩ := e
  apply hc
  have h' : k < s.data.toList.length := by simpa using h
  refine ⟨?_, ?_⟩
  · rw [← bget s k h h']; exact e3 _ (List.getElem_mem _)
  · rintro rfl; rw [head_of s h] at e2; exact e2
set_option maxHeartbeats 1000000 in
theorem isName_any (s : ByteArray) (w : World) (hs : s.size ≤ maxLen) :
    Calls Tryd.prog 19 #[.string s] w fun e w' => e = .returned (.bool (nameB s.data.toList)) ∧ Below w.heap.size w w' := by
  unfold maxLen at hs
  by_cases h0 : s.size = 0
  · obtain ⟨hne, he⟩ := str_nil s h0
    rw [nameB_nil s h0]
    clear h0
    go_enter Tryd.func19, Tryd.ntmps19
    go_wp2
    go_ret
    exact ⟨rfl, Below.refl _ _⟩
  by_cases h30 : 30 < s.size
  · obtain ⟨hne, he⟩ := str_ne s h0
    rw [nameB_long s h30]
    have h3 : decide (30 < (s.size : Int)) = true := by simp; omega
    clear h0
    go_enter Tryd.func19, Tryd.ntmps19
    go_wp2
    go_ret
    exact ⟨rfl, Below.refl _ _⟩
  obtain ⟨hne, he⟩ := str_ne s h0
  have h3 : decide (30 < (s.size : Int)) = false := by simp; omega
  have hz := Lib.hid h0
  clear h0
  go_enter Tryd.func19, Tryd.ntmps19
  go_wp2
  go_loopw [] (fun wr => ∃ k : Nat, k ≤ s.size ∧ wr.heap[w.heap.size]? = some (.stringIter s k) ∧ Below w.heap.size w wr ∧ (∀ j (hj : j < s.size), j < k → chB (s[j]'hj).toNat = true) ∧ (0 < k → headB s.data.toList = true)) (fun wr => s.size - wr.iterPos w.heap.size)
  case atStart =>
    exact ⟨0, Nat.zero_le _, World.iter_heap w s 0, (Below.refl _ w).alloc (Nat.le_refl _) _, fun j hj h => absurd h (Nat.not_lt_zero _), fun h => absurd h (Nat.lt_irrefl _)⟩
  case round =>
    obtain ⟨k, hk, hit, hb, hall, hhd⟩ := hrel
    have HA := Lib.hid hall
    have HH := Lib.hid hhd
    clear hall hhd
    by_cases hlt : k < s.size
    · by_cases hc : chB (s[k]'hlt).toNat = true ∧ (k = 0 → lowB (s[k]'hlt).toNat = true)
      · have ha : (s[k]'hlt).toNat < 128 := by
          have := hc.1; simp [chB, lowB, digB] at this; omega
        have hnx : ∀ ty, (Instr.next (.pointer (some ⟨w.heap.size, 0, none⟩)) true ty).run Tryd.prog wr = _ := fun ty => Lib.run_next_ascii_at wr w.heap.size s k ty hit hlt ha
        have HC := Lib.hid hc
        have hi2 := Lib.hid (Lib.iterAt_heap wr w.heap.size s k (k + 1) hit)
        have hb2 := Lib.below_iterAt hb (Nat.le_refl w.heap.size) s (k + 1)
        have Hit := Lib.hid hit
        have hfin : ∀ W, W = wr.iterAt w.heap.size s (k + 1) → (∃ k : Nat, k ≤ s.size ∧ W.heap[w.heap.size]? = some (.stringIter s k) ∧ Below w.heap.size w W ∧ (∀ j (hj : j < s.size), j < k → chB (s[j]'hj).toNat = true) ∧ (0 < k → headB s.data.toList = true)) := by
          rintro W rfl
          refine ⟨k + 1, by omega, hi2.out, hb2, ?_, ?_⟩
          · intro j hj h
            by_cases e : j = k
            · subst e; exact HC.out.1
            · exact HA.out j hj (by omega)
          · intro _
            by_cases e : k = 0
            · subst e; rw [head_of s hlt]; exact HC.out.2 rfl
            · exact HH.out (by omega)
        have HF := Lib.hid hfin
        have hms : s.size - (wr.iterAt w.heap.size s (k + 1)).iterPos w.heap.size < s.size - wr.iterPos w.heap.size := by
          simp only [World.iterPos, hi2.out, hit]; omega
        have HM := Lib.hid hms
        clear hfin hms hc hit hb2
        generalize hcc : (s[k]'hlt).toNat = c at *
        have HCC := Lib.hid hcc
        clear hcc
        by_cases hl : lowB c = true
        · go_wp2_with (first | (go_at_call 24; refine (isLetter_any _ _).mono ?_; rintro e w' ⟨rfl, rfl⟩) | (go_at_call 16; refine (isDigit_any _ _).mono ?_; rintro e w' ⟨rfl, rfl⟩))
          exact ⟨HF.out _ rfl, HM.out⟩
        have hk0 : ((k : Int) == 0) = false := by
          rw [beq_eq_false_iff_ne]; intro e; exact hl (HC.out.2 (by omega))
        have hk1 : ¬ k = 0 := by rw [beq_eq_false_iff_ne] at hk0; omega
        have hl' : lowB c = false := by simpa using hl
        clear hl
        by_cases hd : digB c = true
        · go_wp2_with (first | (go_at_call 24; refine (isLetter_any _ _).mono ?_; rintro e w' ⟨rfl, rfl⟩) | (go_at_call 16; refine (isDigit_any _ _).mono ?_; rintro e w' ⟨rfl, rfl⟩))
          exact ⟨HF.out _ rfl, HM.out⟩
        have hd' : digB c = false := by simpa using hd
        have h95 : ((c : Int) != 95) = false := by
          have := HC.out.1
          simp [chB, hl', hd'] at this; simp; exact this
        clear hd
        go_wp2_with (first | (go_at_call 24; refine (isLetter_any _ _).mono ?_; rintro e w' ⟨rfl, rfl⟩) | (go_at_call 16; refine (isDigit_any _ _).mono ?_; rintro e w' ⟨rfl, rfl⟩))
        exact ⟨HF.out _ rfl, HM.out⟩
      · have hnx : ∀ ty, (Instr.next (.pointer (some ⟨w.heap.size, 0, none⟩)) true ty).run Tryd.prog wr = _ := fun ty => Lib.run_next_any_at wr w.heap.size s k ty hit hlt
        have hb2 := Lib.below_iterAt hb (Nat.le_refl w.heap.size) s (k + (Utf8.decode s k).2)
        have hno := Lib.hid (nameB_no s k hlt hc)
        rcases dec_high s k hlt hc with ⟨rfl, hl⟩ | ⟨hk0, hl, hd, h95⟩
        · clear hc hit
          generalize (Utf8.decode s 0).1 = r at *
          go_wp2_with (first | (go_at_call 24; refine (isLetter_any _ _).mono ?_; rintro e w' ⟨rfl, rfl⟩) | (go_at_call 16; refine (isDigit_any _ _).mono ?_; rintro e w' ⟨rfl, rfl⟩))
          go_ret
          exact ⟨by rw [hno.out]; rfl, by simpa using hb2⟩
        · clear hc hit
          have hk1 : ((k : Int) == 0) = false := by rw [beq_eq_false_iff_ne]; omega
          generalize (Utf8.decode s k).1 = r at *
          go_wp2_with (first | (go_at_call 24; refine (isLetter_any _ _).mono ?_; rintro e w' ⟨rfl, rfl⟩) | (go_at_call 16; refine (isDigit_any _ _).mono ?_; rintro e w' ⟨rfl, rfl⟩))
          go_ret
          exact ⟨by rw [hno.out]; rfl, hb2⟩
    · have hnx : ∀ ty, (Instr.next (.pointer (some ⟨w.heap.size, 0, none⟩)) true ty).run Tryd.prog wr = _ := fun ty => Lib.run_next_end_at wr w.heap.size s k ty hit hlt
      have hyes := Lib.hid (nameB_yes s (by omega) (HH.out (by have := hz.out; omega)) (fun j hj => HA.out j hj (by omega)))
      clear hit
      go_wp2
      go_ret
      exact ⟨by rw [hyes.out]; rfl, hb⟩
end Go.Proofs.YtglllbolgahacaaDoor
