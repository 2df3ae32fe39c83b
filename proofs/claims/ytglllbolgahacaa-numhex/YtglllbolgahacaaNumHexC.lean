/- num.ReadHex: of an even number of hexadecimal digits the bytes, else none and ErrForm. -/
import Derived.Test.YtglllbolgahacaaNumHexB
namespace Go.Proofs.Ytglllbolgahacaa
open Go.RowKit
/-- A slice of these bytes comes back beside x. -/
def BytesPost (l : List UInt8) (x : Value) (w : World) (e : Ending) (w' : World) : Prop := ∃ a cap, e = .returned (.tuple #[.slice a l.length cap, x]) ∧ Below w.heap.size w w' ∧ BytesAt w' a l
theorem bytesAt_of_owns {w : World} {B : Nat} {v : Value} {l : List UInt8} (h : w.ownsRow B 5 1 v l.length (Lib.byteCells l)) : ∃ a cap, v = .slice a l.length cap ∧ BytesAt w a l := by
  obtain ⟨_, ⟨rfl, h0⟩ | ⟨g, cap, cur, rfl, _, hg, hn, hm, hs, ht⟩⟩ := h
  · refine ⟨none, 0, by rw [h0], ?_⟩
    have : l = [] := List.eq_nil_of_length_eq_zero h0
    subst this; exact ⟨by simp, .inl rfl⟩
  · refine ⟨_, _, rfl, by omega, .inr ⟨g, 0, rfl, ?_, ?_⟩⟩
    · rcases Nat.lt_or_ge g w.heap.size with h' | h'
      · exact h'
      · simp [Array.getElem?_eq_none h'] at hg
    · intro i hi
      have e : (cur.toList.take (l.length * 1))[i]? = (Lib.byteCells l)[i]? := by rw [ht]
      rw [List.getElem?_take, if_pos (by omega)] at e
      simp only [World.cell?, hg, Nat.zero_add, Option.isSome_none, Bool.false_eq_true, if_false]
      rw [← Array.getElem?_toList, e]
      simp [Lib.byteCells, List.getElem?_eq_getElem hi]
theorem owns_lt {w : World} {B g : Nat} {v : Value} {n : Nat} {xs : List Value} (h : w.ownsRow B 5 1 v n xs) (hv : v.ownBlock = some g) : ∃ c fz, w.heap[g]? = some (.cells c 5 fz) := by
  obtain ⟨_, ⟨rfl, _⟩ | ⟨g', cap, cur, rfl, _, hg, _⟩⟩ := h
  · simp [Value.ownBlock] at hv
  · simp [Value.ownBlock] at hv; subst hv; exact ⟨_, _, hg⟩
theorem owns_iter {w : World} {B : Nat} {v : Value} {n : Nat} {xs : List Value} (h : w.ownsRow B 5 1 v n xs) {k : Nat} {s : ByteArray} {p : Nat} (hk : w.heap[k]? = some (.stringIter s p)) (q : Nat) : (w.iterAt k s q).ownsRow B 5 1 v n xs := by
  obtain ⟨h1, h2⟩ := h
  refine ⟨h1, ?_⟩
  rcases h2 with h2 | ⟨g, cap, cur, rfl, hB, hg, hr⟩
  · exact .inl h2
  · refine .inr ⟨g, cap, cur, rfl, hB, ?_, hr⟩
    rw [Lib.iterAt_other _ _ _ _ _ (fun e => by subst e; rw [hk] at hg; cases hg)]; exact hg
theorem owns_ne {w : World} {B : Nat} {v : Value} {n : Nat} {xs : List Value} (h : w.ownsRow B 5 1 v n xs) {k : Nat} {s : ByteArray} {p : Nat} (hk : w.heap[k]? = some (.stringIter s p)) : some k ≠ v.ownBlock := by
  intro e
  obtain ⟨c, fz, hc⟩ := owns_lt h e.symm
  rw [hk] at hc; cases hc
def rhInv (s : ByteArray) (w : World) (K : Nat) (v hi : Value) (wr : World) : Prop :=
  ∃ k h : Nat, k ≤ s.size ∧ wr.heap[K]? = some (.stringIter s k) ∧ Below w.heap.size w wr ∧ (∀ j (hj : j < s.size), j < k → hexOk (s[j]'hj).toNat = true) ∧
    wr.ownsRow w.heap.size 5 1 v (k / 2) (Lib.byteCells (pairsN s (k / 2))) ∧ hi = .int .u8 h ∧ h < 16 ∧ (k % 2 = 1 → h = hexVal (s.data.toList.getD (k - 1) 0).toNat)
theorem pair_eq (s : ByteArray) (k : Nat) (hk : k < s.size) (h : Nat) (h1 : k % 2 = 1) (hh : h = hexVal (s.data.toList.getD (k - 1) 0).toNat) :
    ((pairB s (k / 2)).toNat : Int) = 16 * (h : Int) + (hexVal (s[k]'hk).toNat : Int) := by
  have e1 : 2 * (k / 2) = k - 1 := by omega
  have e2 : 2 * (k / 2) + 1 = k := by omega
  unfold pairB
  rw [e1, show k - 1 + 1 = k from by omega, ← hh, getD_at s k hk]
  have := hexVal_lt (s[k]'hk).toNat
  have h16 : h < 16 := by rw [hh]; exact hexVal_lt _
  simp only [UInt8.toNat_ofNat']
  omega
def hexBytes (s : ByteArray) : List UInt8 := if hexAll s = true then pairsN s (s.size / 2) else []
def hexErr (s : ByteArray) : Int := if hexAll s = true then 0 else 2
theorem hexBytes_no {s : ByteArray} (h : hexAll s = false) : hexBytes s = [] ∧ hexErr s = 2 := by simp [hexBytes, hexErr, h]
theorem hexBytes_yes {s : ByteArray} (h : hexAll s = true) : hexBytes s = pairsN s (s.size / 2) ∧ hexErr s = 0 := by simp [hexBytes, hexErr, h]
set_option maxHeartbeats 2000000 in
theorem readHex_any (s : ByteArray) (w : World) (hs : s.size ≤ maxLen) (hsm : s.size ≤ 1000000) :
    Calls Try.prog 9 #[.string s] w (BytesPost (hexBytes s) (.int .i64 (hexErr s)) w) := by
  by_cases hodd : s.size % 2 = 0
  · have d1 : (((s.size : Int) % 2) != 0) = false := by rw [bne_eq_false_iff_eq]; omega
    have HS := Lib.hid hs
    obtain ⟨i0, hi, hz0, hz1, hz2⟩ := info_parts uInfo
    have hz2' := Lib.hid hz2
    have hod := Lib.hid hodd
    clear hs hodd
    go_enter Try.func9, Try.ntmps9
    go_wp2_with (at_make; refine wpList_make_own _ rfl _ _ 29 rfl w.heap.size 5 i0 (.int .u8 0) 1 Try.underlying29 hi hz0 hz1 .i64 .i64 _ (s.size / 2) rfl rfl ?m1 ?m2 ?m3 ?m4 ?_)
    case m1 => simp
    case m2 => rw [hz2'.out]; omega
    case m3 => unfold maxLen; omega
    case m4 => simp
    intro w1 hown hgrow
    have hb1 : Below w.heap.size w w1 := (Below.refl _ w).grown hgrow (Nat.le_refl _) (by simp)
    have hg := Lib.hid hgrow
    have ho := Lib.hid hown
    clear hgrow hown d1
    go_wp2
    go_loopw [4, 5] (fun v h wr => rhInv s w w1.heap.size v h wr) (fun _ _ wr => s.size - wr.iterPos w1.heap.size)
    case atStart =>
      refine ⟨0, 0, Nat.zero_le _, World.iter_heap w1 s 0, hb1.alloc hb1.size _, fun j hj h => absurd h (Nat.not_lt_zero _), ?_, rfl, by omega, by omega⟩
      exact ho.out.alloc _
    case round =>
      obtain ⟨k, h, hk, hit, hb, hall, hown, rfl, hh, hodd⟩ := hrel
      have HA := Lib.hid hall
      have HO := Lib.hid hown
      have HD := Lib.hid hodd
      clear hall hown hodd
      by_cases hlt : k < s.size
      · by_cases hc : hexOk (s[k]'hlt).toNat = true
        · have ha : (s[k]'hlt).toNat < 128 := by rcases hexOk_cases hc with ⟨_, _, _⟩ | ⟨_, _, _⟩ <;> omega
          have hnx : ∀ ty, (Instr.next (.pointer (some ⟨w1.heap.size, 0, none⟩)) true ty).run Try.prog wr = _ := fun ty => Lib.run_next_ascii_at wr w1.heap.size s k ty hit hlt ha
          have hi2 := Lib.hid (Lib.iterAt_heap wr w1.heap.size s k (k + 1) hit)
          have hb2 := Lib.hid (Lib.below_iterAt hb hb1.size s (k + 1))
          have HN : Hid (∀ j (hj : j < s.size), j < k + 1 → hexOk (s[j]'hj).toNat = true) := Lib.hid (fun j hj h => by
            by_cases e : j = k
            · subst e; exact hc
            · exact HA.out j hj (by omega))
          have HC := Lib.hid hc
          have hvl := hexVal_lt (s[k]'hlt).toNat
          have Hit := Lib.hid hit
          have Hb := Lib.hid hb
          clear hit hc
          by_cases hev : k % 2 = 0
          · have d2 : ((k : Int) % 2 == 0) = true := by rw [beq_iff_eq]; omega
            go_wp2_with fail
            refine (hexValue_yes _ _ HC.out).mono ?_
            rintro e w' ⟨rfl, rfl⟩
            go_wp2
            refine ⟨⟨k + 1, hexVal (s[k]'hlt).toNat, by omega, hi2.out, hb2.out, HN.out, ?_, rfl, hvl, ?_⟩, ?_⟩
            · rw [show (k + 1) / 2 = k / 2 from by omega]; exact owns_iter HO.out Hit.out _
            · intro _; rw [show k + 1 - 1 = k from by omega, getD_at s k hlt]
            · simp only [World.iterPos, hi2.out, Hit.out]; omega
          · have d2 : ((k : Int) % 2 == 0) = false := by rw [beq_eq_false_iff_ne]; omega
            have hpe := Lib.hid (pair_eq s k hlt h (by omega) (HD.out (by omega)))
            have HO2 := Lib.hid (owns_iter HO.out Hit.out (k + 1))
            generalize hvv : hexVal (s[k]'hlt).toNat = vv at *
            have q1 : (0 : Int) ≤ 16 * (h : Int) + (vv : Int) := by omega
            have q2 : 16 * (h : Int) + (vv : Int) ≤ 255 := by omega
            have HVV := Lib.hid hvv
            have hszr : w1.heap.size < wr.heap.size := (Array.getElem?_eq_some_iff.1 Hit.out).1
            have hsz0 := hb1.size
            clear hvv
            go_wp2_with fail
            refine (hexValue_yes _ _ HC.out).mono ?_
            rintro e w' ⟨rfl, rfl⟩
            rw [HVV.out]
            go_wp2_with (at_builtin; refine wpList_append_own _ rfl _ _ 29 rfl w.heap.size 5 i0 (.int .u8 0) 1 1 Try.underlying29 hi hz0 hz1 hz2'.out rfl (by decide) _ _ _ rfl (HO2.out.alloc _) ⟨(wr.iterAt w1.heap.size s (k + 1)).heap.size, 0, none⟩ 1 1 [.int .u8 (16 * (h : Int) + (vv : Int))] rfl rfl ?c1 ?c2 ?c3 ?c4 ?c5 ?_)
            case c1 =>
              intro j u hj
              match j, hj with
              | 0, hj => simp at hj; subst hj; simp [Addr.add]
            case c2 => intro u hu; simp at hu; subst hu; rfl
            case c3 => unfold maxLen; omega
            case c4 => omega
            case c5 => simp [Lib.iterAt_size]; omega
            intro v' w2 hown' hgrow _
            have hit3 : w2.heap[w1.heap.size]? = some (.stringIter s (k + 1)) := by
              rw [hgrow.block _ (by simp [Lib.iterAt_size]; omega) (owns_ne HO2.out hi2.out), Below.heap_alloc _ _ _ (by rw [Lib.iterAt_size]; exact hszr)]
              exact hi2.out
            have hb3 : Below w.heap.size w w2 := (hb2.out.alloc (by rw [Lib.iterAt_size]; omega) _).grown hgrow (by simp [Lib.iterAt_size]; omega) (fun g hg => by
              obtain ⟨_, ⟨rfl, _⟩ | ⟨g', cap, cur, rfl, hB, _⟩⟩ := HO2.out
              · simp [Value.ownBlock] at hg
              · simp [Value.ownBlock] at hg; omega)
            have HIT3 := Lib.hid hit3
            have HOW := Lib.hid hown'
            clear hgrow hit3 hown'
            go_wp2
            refine ⟨⟨k + 1, h, by omega, HIT3.out, hb3, HN.out, ?_, rfl, hh, by omega⟩, ?_⟩
            · rw [show (k + 1) / 2 = k / 2 + 1 from by omega, pairsN_succ, Lib.byteCells_append]
              have : Lib.byteCells [pairB s (k / 2)] = [.int .u8 (16 * (h : Int) + (vv : Int))] := by
                simp only [Lib.byteCells, List.map_cons, List.map_nil, hpe.out]
              rw [this]; exact HOW.out
            · simp only [World.iterPos, HIT3.out, Hit.out]; omega
        · have hc' : hexOk (s[k]'hlt).toNat = false := by simpa using hc
          have hno := Lib.hid (hexBytes_no (hexAll_no s k hlt hc'))
          have hnx : ∀ ty, (Instr.next (.pointer (some ⟨w1.heap.size, 0, none⟩)) true ty).run Try.prog wr = _ := fun ty => Lib.run_next_any_at wr w1.heap.size s k ty hit hlt
          have hb2 := Lib.hid (Lib.below_iterAt hb hb1.size s (k + (Utf8.decode s k).2))
          have hdd : hexOk ((Utf8.decode s k).1 : Nat) = false := by
            by_cases ha : (s[k]'hlt).toNat < 128
            · rw [decode_ascii s k hlt ha]; exact hc'
            · have := (decode_high s k hlt (by omega)).1
              simp [hexOk, digB]; omega
          have HDD := Lib.hid hdd
          clear hit hc hc' hdd
          generalize (Utf8.decode s k).1 = r at *
          go_wp2_with fail
          refine (hexValue_no _ _ HDD.out).mono ?_
          rintro e w' ⟨rfl, rfl⟩
          go_wp2
          go_ret2
          refine ⟨none, 0, by rw [hno.out.1, hno.out.2]; rfl, hb2.out, ?_⟩
          rw [hno.out.1]; exact ⟨by simp, .inl rfl⟩
      · have hnx : ∀ ty, (Instr.next (.pointer (some ⟨w1.heap.size, 0, none⟩)) true ty).run Try.prog wr = _ := fun ty => Lib.run_next_end_at wr w1.heap.size s k ty hit hlt
        obtain rfl : k = s.size := by omega
        have hyes := Lib.hid (hexBytes_yes (hexAll_yes s hod.out (fun j hj => HA.out j hj hj)))
        obtain ⟨a, cap, rfl, hat⟩ := bytesAt_of_owns (l := pairsN s (s.size / 2)) (by rw [pairsN_length]; exact HO.out)
        have HAT := Lib.hid hat
        clear hit hat
        go_wp2
        go_ret2
        exact ⟨a, cap, by rw [hyes.out.1, hyes.out.2]; rfl, hb, by rw [hyes.out.1]; exact HAT.out⟩
  · have d1 : (((s.size : Int) % 2) != 0) = true := by rw [bne_iff_ne]; omega
    rw [(hexBytes_no (hexAll_odd s hodd)).1, (hexBytes_no (hexAll_odd s hodd)).2]
    go_enter Try.func9, Try.ntmps9
    go_wp2
    go_ret2
    exact ⟨none, 0, rfl, Below.refl _ _, by simp, .inl rfl⟩
end Go.Proofs.Ytglllbolgahacaa
