/- num.Read and quillref01.Read: both answer readN, readE of the text's bytes. -/
import Derived.Test.YtglllbolgahacaaDoorNumNameA
namespace Go.Proofs.YtglllbolgahacaaDoor
open Go.RowKit
def valN (l : List UInt8) : Nat := l.foldl (fun n c => 10 * n + (c.toNat - 48)) 0
def shortB : List UInt8 → Bool
  | [] => true
  | [_] => false
  | c :: _ :: _ => c.toNat == 48
def badB (l : List UInt8) : Bool := shortB l || !(l.all fun c => digB c.toNat)
def readN (l : List UInt8) : Int := if badB l = true then 0 else if valN l ≤ 1000000 then valN l else 0
def readE (l : List UInt8) : Int := if badB l = true then 2 else if valN l ≤ 1000000 then 0 else 4
theorem valN_snoc (l : List UInt8) (c : UInt8) : valN (l ++ [c]) = 10 * valN l + (c.toNat - 48) := by simp [valN]
theorem bad_short {l : List UInt8} (h : shortB l = true) : badB l = true := by simp [badB, h]
theorem bad_dig (s : ByteArray) (k : Nat) (h : k < s.size) (hd : digB (s[k]'h).toNat = false) : badB s.data.toList = true := by
  have h' : k < s.data.toList.length := by simpa using h
  have : (s.data.toList.all fun c => digB c.toNat) = false := by
    rw [List.all_eq_false]
    exact ⟨_, List.getElem_mem h', by rw [bget s k h h', hd]; simp⟩
  simp [badB, this]
theorem bad_not (s : ByteArray) (h : shortB s.data.toList = false) (hd : ∀ j (hj : j < s.size), digB (s[j]'hj).toNat = true) : badB s.data.toList = false := by
  have : (s.data.toList.all fun c => digB c.toNat) = true := by
    rw [List.all_eq_true]
    intro c hc
    obtain ⟨j, hj, rfl⟩ := List.getElem_of_mem hc
    exact hd j (by simpa using hj)
  simp [badB, this, h]
theorem short_nil (s : ByteArray) (h : s.size = 0) : shortB s.data.toList = true := by
  have : s.data.toList = [] := by apply List.eq_nil_of_length_eq_zero; simpa using h
  rw [this]; rfl
theorem short_one (s : ByteArray) (h : s.size = 1) : shortB s.data.toList = false := by
  have : s.data.toList.length = 1 := by simpa using h
  generalize s.data.toList = l at this
  match l, this with
  | [c], _ => rfl
theorem short_more (s : ByteArray) (h : 1 < s.size) : shortB s.data.toList = ((s[0]'(by omega)).toNat == 48) := by
  have hl : s.data.toList.length = s.size := by simp
  have h0 : 0 < s.data.toList.length := by omega
  have h1 : 1 < s.data.toList.length := by omega
  rw [← bget s 0 (by omega) h0]
  generalize s.data.toList = l at *
  match l, h1 with
  | c :: d :: t, _ => rfl
theorem read_bad {l : List UInt8} (h : badB l = true) : readN l = 0 ∧ readE l = 2 := by simp [readN, readE, h]
theorem read_big {l : List UInt8} (h : badB l = false) (hv : 1000000 < valN l) : readN l = 0 ∧ readE l = 4 := by
  have : ¬ valN l ≤ 1000000 := by omega
  simp [readN, readE, h, this]
theorem read_ok {l : List UInt8} (h : badB l = false) (hv : valN l ≤ 1000000) : readN l = valN l ∧ readE l = 0 := by simp [readN, readE, h, hv]
theorem val_step (s : ByteArray) (k : Nat) (h : k < s.size) : valN (s.data.toList.take (k + 1)) = 10 * valN (s.data.toList.take k) + ((s[k]'h).toNat - 48) := by
  have h' : k < s.data.toList.length := by simpa using h
  rw [List.take_succ_eq_append_getElem h', valN_snoc]; rfl
def readInv (s : ByteArray) (w : World) (n : Value) (wr : World) : Prop :=
  ∃ k m : Nat, k ≤ s.size ∧ n = .int .i64 m ∧ wr.heap[w.heap.size]? = some (.stringIter s k) ∧ Below w.heap.size w wr ∧ (∀ j (hj : j < s.size), j < k → digB (s[j]'hj).toNat = true) ∧
    ((valN (s.data.toList.take k) ≤ 1000000 ∧ m = valN (s.data.toList.take k)) ∨ (1000000 < valN (s.data.toList.take k) ∧ 1000000 < m ∧ m ≤ 10000009))
theorem dec_dig (s : ByteArray) (k : Nat) (h : k < s.size) (hd : digB (s[k]'h).toNat = false) : digB ((Utf8.decode s k).1 : Nat) = false := by
  by_cases ha : (s[k]'h).toNat < 128
  · rw [decode_ascii s k h ha]; exact hd
  · have := (decode_high s k h (by omega)).1
    simp [digB]; omega
set_option maxHeartbeats 2000000 in
theorem read_any (s : ByteArray) (w : World) (hs : s.size ≤ maxLen) :
    Calls Tryd.prog 8 #[.string s] w fun e w' => e = .returned (.tuple #[.int .i64 (readN s.data.toList), .int .i64 (readE s.data.toList)]) ∧ Below w.heap.size w w' := by
  unfold maxLen at hs
  by_cases h0 : s.size = 0
  · obtain ⟨hne, he⟩ := str_nil s h0
    rw [(read_bad (bad_short (short_nil s h0))).1, (read_bad (bad_short (short_nil s h0))).2]
    clear h0
    go_enter Tryd.func8, Tryd.ntmps8
    go_wp2
    go_ret2
    exact ⟨rfl, Below.refl _ _⟩
  have hp : 0 < s.size := by omega
  obtain ⟨hne, he⟩ := str_ne s h0
  by_cases h48 : 1 < s.size ∧ (s[0]'hp).toNat = 48
  · have hb := bad_short (l := s.data.toList) (by rw [short_more s h48.1, h48.2]; rfl)
    rw [(read_bad hb).1, (read_bad hb).2]
    have d1 : decide ((1 : Int) < (s.size : Int)) = true := by simp; omega
    have d2 : (((s[0]'hp).toNat : Int) == 48) = true := by simp; omega
    clear h0 hb
    go_enter Tryd.func8, Tryd.ntmps8
    go_wp2
    go_ret2
    exact ⟨rfl, Below.refl _ _⟩
  have hsh : shortB s.data.toList = false := by
    by_cases h1 : 1 < s.size
    · rw [short_more s h1]; simp; intro e; exact h48 ⟨h1, e⟩
    · exact short_one s (by omega)
  have hcs : (decide ((1 : Int) < (s.size : Int)) = false) ∨ (decide ((1 : Int) < (s.size : Int)) = true ∧ (((s[0]'hp).toNat : Int) == 48) = false) := by
    by_cases h1 : 1 < s.size
    · right; refine ⟨by simp; omega, ?_⟩
      rw [beq_eq_false_iff_ne]; intro e; exact h48 ⟨h1, by omega⟩
    · left; simp; omega
  have HS := Lib.hid hsh
  clear h0 h48 hsh
  rcases hcs with d1 | ⟨d1, d2⟩
  all_goals
    go_enter Tryd.func8, Tryd.ntmps8
    go_wp2
    go_loopw [4] (fun n wr => readInv s w n wr) (fun _ wr => s.size - wr.iterPos w.heap.size)
    case atStart =>
      exact ⟨0, 0, Nat.zero_le _, rfl, World.iter_heap w s 0, (Below.refl _ w).alloc (Nat.le_refl _) _, fun j hj h => absurd h (Nat.not_lt_zero _), .inl ⟨by simp [valN], by simp [valN]⟩⟩
    case round =>
      obtain ⟨k, m, hk, rfl, hit, hb, hall, hval⟩ := hrel
      have HA := Lib.hid hall
      have HV := Lib.hid hval
      clear hall hval
      by_cases hlt : k < s.size
      · by_cases hc : digB (s[k]'hlt).toNat = true
        · have hr : 48 ≤ (s[k]'hlt).toNat ∧ (s[k]'hlt).toNat ≤ 57 := by have := hc; simp [digB] at this; omega
          have hnx : ∀ ty, (Instr.next (.pointer (some ⟨w.heap.size, 0, none⟩)) true ty).run Tryd.prog wr = _ := fun ty => Lib.run_next_ascii_at wr w.heap.size s k ty hit hlt (by omega)
          have hi2 := Lib.hid (Lib.iterAt_heap wr w.heap.size s k (k + 1) hit)
          have hb2 := Lib.hid (Lib.below_iterAt hb (Nat.le_refl w.heap.size) s (k + 1))
          have hms : s.size - (wr.iterAt w.heap.size s (k + 1)).iterPos w.heap.size < s.size - wr.iterPos w.heap.size := by
            simp only [World.iterPos, hi2.out, hit]; omega
          have HM := Lib.hid hms
          have HVS := Lib.hid (val_step s k hlt)
          have HN : Hid (∀ j (hj : j < s.size), j < k + 1 → digB (s[j]'hj).toNat = true) := Lib.hid (fun j hj h => by
            by_cases e : j = k
            · subst e; exact hc
            · exact HA.out j hj (by omega))
          clear hms hit
          generalize hcc : (s[k]'hlt).toNat = c at *
          have HCC := Lib.hid hcc
          clear hcc
          obtain ⟨hr1, hr2⟩ := hr
          by_cases hm : m ≤ 1000000
          · have d3 : decide ((m : Int) ≤ (1000000 : Int)) = true := by simp; omega
            have q1 : (48 : Int) ≤ (c : Int) := by omega
            have q2 : (c : Int) ≤ 57 := by omega
            go_wp2_with (go_at_call 16; refine (isDigit_any _ _).mono ?_; rintro e w' ⟨rfl, rfl⟩)
            refine ⟨⟨k + 1, 10 * m + (c - 48), by omega, ?_, hi2.out, hb2.out, HN.out, ?_⟩, HM.out⟩
            · rw [show ((10 * m + (c - 48) : Nat) : Int) = 10 * (m : Int) + ((c : Int) - 48) from by omega]
            · rw [HVS.out]
              rcases HV.out with ⟨v1, v2⟩ | ⟨v1, v2, v3⟩
              · rw [v2]; omega
              · omega
          · have d3 : decide ((m : Int) ≤ (1000000 : Int)) = false := by simp; omega
            go_wp2_with (go_at_call 16; refine (isDigit_any _ _).mono ?_; rintro e w' ⟨rfl, rfl⟩)
            refine ⟨⟨k + 1, m, by omega, rfl, hi2.out, hb2.out, HN.out, ?_⟩, HM.out⟩
            rw [HVS.out]
            rcases HV.out with ⟨v1, v2⟩ | ⟨v1, v2, v3⟩
            · omega
            · right; omega
        · have hc' : digB (s[k]'hlt).toNat = false := by simpa using hc
          have hnx : ∀ ty, (Instr.next (.pointer (some ⟨w.heap.size, 0, none⟩)) true ty).run Tryd.prog wr = _ := fun ty => Lib.run_next_any_at wr w.heap.size s k ty hit hlt
          have hb2 := Lib.hid (Lib.below_iterAt hb (Nat.le_refl w.heap.size) s (k + (Utf8.decode s k).2))
          have hno := Lib.hid (read_bad (bad_dig s k hlt hc'))
          have hdd := dec_dig s k hlt hc'
          clear hc hit
          generalize (Utf8.decode s k).1 = r at *
          go_wp2_with (go_at_call 16; refine (isDigit_any _ _).mono ?_; rintro e w' ⟨rfl, rfl⟩)
          go_ret2
          exact ⟨by rw [hno.out.1, hno.out.2]; rfl, hb2.out⟩
      · have hnx : ∀ ty, (Instr.next (.pointer (some ⟨w.heap.size, 0, none⟩)) true ty).run Tryd.prog wr = _ := fun ty => Lib.run_next_end_at wr w.heap.size s k ty hit hlt
        have hnb := bad_not s HS.out (fun j hj => HA.out j hj (by omega))
        have htk : s.data.toList.take k = s.data.toList := List.take_of_length_le (by simp; have : s.size = s.data.size := rfl; omega)
        have hv := HV.out
        rw [htk] at hv
        clear hit htk
        rcases hv with ⟨v1, v2⟩ | ⟨v1, v2, v3⟩
        · have hok := Lib.hid (read_ok hnb v1)
          have V2 := Lib.hid v2
          have d3 : decide ((1000000 : Int) < (m : Int)) = false := by simp; omega
          clear v1 v2 hnb
          go_wp2
          go_ret2
          exact ⟨by rw [hok.out.1, hok.out.2, V2.out]; rfl, hb⟩
        · have hok := Lib.hid (read_big hnb v1)
          have d3 : decide ((1000000 : Int) < (m : Int)) = true := by simp; omega
          clear v1 hnb
          go_wp2
          go_ret2
          exact ⟨by rw [hok.out.1, hok.out.2]; rfl, hb⟩
end Go.Proofs.YtglllbolgahacaaDoor
