/- Lemmas of mine, merged: QPNumHexA, QPRefHex, QPBuildW, QPNumHexB, QPNumHexC. -/
import Derived.Test.YthgghaaddankoaaGreatDoorQPNumBuildAll
import Derived.Test.YthgghaaddankoaaGreatDoorQPFstIAll
import Derived.Test.YthgghaaddankoaaGreatDoorShelf
import Derived.Deep.QuietTactic
import Derived.BigQuiet
import Derived.IntWalk
import Derived.WalkSmall
/- Lemmas of mine. -/
namespace Go.Proofs.YthgghaaddankoaaGreatDoor
open Go.RowKit
def hexD (n : Nat) : UInt8 := if n < 10 then UInt8.ofNat (48 + n) else UInt8.ofNat (87 + n)
def hexL (l : List UInt8) : List UInt8 := l.flatMap fun c => [hexD (c.toNat / 16), hexD (c.toNat % 16)]
theorem hexL_snoc (l : List UInt8) (c : UInt8) : hexL (l ++ [c]) = hexL l ++ [hexD (c.toNat / 16), hexD (c.toNat % 16)] := by simp [hexL]
theorem hexL_length (l : List UInt8) : (hexL l).length = 2 * l.length := by
  induction l with
  | nil => rfl
  | cons c t ih => simp [hexL] at ih ⊢; omega
theorem hexC_fin : ∀ i : Fin 16, (ByteArray.mk #[48, 49, 50, 51, 52, 53, 54, 55, 56, 57, 97, 98, 99, 100, 101, 102])[i.1]'(by have := i.2; exact this) = hexD i.1 := by decide
theorem hexC_at (n : Nat) (h : n < 16) (h' : n < (ByteArray.mk #[48, 49, 50, 51, 52, 53, 54, 55, 56, 57, 97, 98, 99, 100, 101, 102]).size) : (ByteArray.mk #[48, 49, 50, 51, 52, 53, 54, 55, 56, 57, 97, 98, 99, 100, 101, 102])[n] = hexD n := hexC_fin ⟨n, h⟩
def hexInv (l : List UInt8) (w : World) (i : Value) (wr : World) : Prop := ∃ k : Nat, k ≤ l.length ∧ i = .int .i64 k ∧ Lib.IsBuilderF 95 5 w.heap.size w.heap.size (Lib.byteCells (hexL (l.take k))) wr ∧ Below w.heap.size w wr
set_option maxHeartbeats 1000000 in
theorem hex_any (a : Option Addr) (l : List UInt8) (cap : Nat) (w : World) (h : BytesAt w a l) (hl : l.length ≤ 1000000) :
    Calls Tryz.prog 130 #[.slice a l.length cap] w fun e w' => e = .returned (.string ⟨(hexL l).toArray⟩) ∧ Below w.heap.size w w' := by
  have hS := Lib.hid h; clear h; go_enter Tryz.func130, Tryz.ntmps130; go_wp2
  go_loopw [8] (fun i wr => hexInv l w i wr) (fun i _ => l.length - (intOf i).toNat)
  case atStart => exact ⟨0, Nat.zero_le _, rfl, Lib.IsBuilderF.of (Lib.fresh_isBuilder _ _ w), (Below.refl _ _).alloc (Nat.le_refl _) _⟩
  case round =>
    obtain ⟨k, hk, rfl, hI, hb⟩ := hrel; have hsz := hb.size
    by_cases hlt : k < l.length
    · obtain ⟨b, off, hab, hblt, hc⟩ : ∃ b off, a = some ⟨b, off, none⟩ ∧ b < w.heap.size ∧ ∀ i (h : i < l.length), w.cell? ⟨b, off + i, none⟩ = some (.int .u8 l[i].toNat) := by
        rcases hS.out.2 with h | h
        · subst h; simp at hlt
        · exact h
      subst hab; (have hcell : wr.cell? ⟨b, off + k, none⟩ = some (.int .u8 l[k].toNat) := by rw [hb.cell (p := ⟨b, off + k, none⟩) hblt]; exact hc k hlt); clear hc; (have h255 : (l[k].toNat : Int) ≤ 255 := by have := l[k].toNat_lt; omega); have hI' := Lib.hid hI; (have hlen : (Lib.byteCells (hexL (l.take k))).length ≤ 2000000 := by rw [Lib.byteCells_length, hexL_length]; simp; omega)
      have hsn : hexL (l.take (k + 1)) = hexL (l.take k) ++ [hexD (l[k].toNat / 16), hexD (l[k].toNat % 16)] := by
        rw [List.take_succ_eq_append_getElem hlt, hexL_snoc]
      have HS := Lib.hid hsn; (have h16 : l[k].toNat / 16 < 16 := by have := l[k].toNat_lt; omega); (have h16' : l[k].toNat % 16 < 16 := by omega); clear hI hsn; go_wp2_with fail; rw [hexC_at _ h16]; refine (writeByte_any w.heap.size w.heap.size _ _ _ hI'.out (by omega) (by omega)).mono ?_; rintro e w1 ⟨rfl, hI1, hb1, -⟩; have HI1 := Lib.hid hI1; clear hI1; have hs1 := hb1.size; go_wp2_with fail; rw [hexC_at _ h16']; refine (writeByte_any w.heap.size w.heap.size _ _ _ HI1.out (by simp; omega) (by omega)).mono ?_; rintro e w2 ⟨rfl, hI2, hb2, -⟩; have HI2 := Lib.hid hI2; clear hI2; go_wp2; refine ⟨⟨k + 1, by omega, by go_num, ?_, (hb.trans hb1).trans hb2⟩, by simp [intOf]; omega⟩; rw [HS.out, Lib.byteCells_append]
      simpa [Lib.byteCells] using HI2.out
    · have he : l.take k = l := List.take_of_length_le (by omega); rw [he] at hI; have hI' := Lib.hid hI; clear hI he; go_wp2_with fail; refine (Tryz.Builder_String_any_k w.heap.size w.heap.size (hexL l) _ hI'.out (by omega)).mono ?_; rintro e w1 ⟨rfl, -, hb1, -⟩; go_wp2; go_ret; exact ⟨rfl, hb.trans hb1⟩
open Go.RowKit
theorem w16 (c : Nat) (h : c < 256) : IntKind.i64.wrap (c : Int) = (c : Int) ∧ IntKind.i64.wrap ((c : Int) / 16) = (c : Int) / 16 ∧ IntKind.i64.wrap ((c : Int) % 16) = (c : Int) % 16 :=
  ⟨IntWalk.i64_in _ (by omega), IntWalk.i64_in _ (by omega), IntWalk.i64_in _ (by omega)⟩
open Go.RowKit
set_option maxHeartbeats 2000000 in
set_option maxRecDepth 100000 in
theorem writeString_any (B b : Nat) (bs : List Value) (s : ByteArray) (w : World) (h : Lib.IsBuilderF 95 5 B b bs w) (hlen : bs.length + s.size ≤ 140737488355328) (hBw : B ≤ w.heap.size) :
    Calls Tryz.prog 88 #[.pointer (some ⟨b, 0, none⟩), .string s] w fun e w' => e = .returned (.tuple #[.int .i64 s.size, .nilIface]) ∧ Lib.IsBuilderF 95 5 B b (bs ++ Lib.strCells s) w' ∧ Below B w w' := by
  obtain ⟨i0, hi, hz0, hz1, hz2⟩ := info_parts uInfo; go_enter Tryz.func88, Tryz.ntmps88; go_wp2_with fail; refine (copyCheck_any B b bs _ h).mono ?_; rintro e w1 ⟨rfl, h1, hb1, hk1⟩; obtain ⟨hB, v, hbk, hown, hne⟩ := h1; (have c0 : w1.cell? ⟨b, 0, none⟩ = some (.pointer (some ⟨b, 0, none⟩)) := by rw [Lib.cell_of_heap hbk]; rfl); (have c1 : w1.cell? ⟨b, 1, none⟩ = some v := by rw [Lib.cell_of_heap hbk]; rfl); go_wp2_with (at_builtin; refine Lib.wpList_append_own_stringF _ rfl _ _ 93 9 rfl B 5 i0 Tryz.underlying93 Tryz.underlying9 hi hz0 hz1 hz2 _ _ _ rfl hown s rfl ?c3 ?c4 ?c5 ?_)
  case c3 => unfold maxLen; omega
  case c4 => omega
  case c5 => have := hb1.size; omega
  intro v' w2 hown' hgrow _
  have hlt : b < w1.heap.size := by
    rcases Nat.lt_or_ge b w1.heap.size with h' | h'
    · exact h'
    · simp [Array.getElem?_eq_none h'] at hbk
  have hb2 : w2.heap[b]? = some (.cells #[.pointer (some ⟨b, 0, none⟩), v] 95 (0, 0)) := by
    rw [hgrow.block b hlt (fun e => hne e.symm)]; exact hbk
  (have d0 : w2.cell? ⟨b, 0, none⟩ = some (.pointer (some ⟨b, 0, none⟩)) := by rw [Lib.cell_of_heap hb2]; rfl); (have d1 : w2.cell? ⟨b, 1, none⟩ = some v := by rw [Lib.cell_of_heap hb2]; rfl); have f1 : w2.frozen? ⟨b, 1, none⟩ = false := Lib.frozen_of_heap hb2 1
  obtain ⟨ao, n', cap, rfl⟩ : ∃ ao n' cap, v' = .slice ao n' cap := by
    rcases hown'.2 with ⟨hv, _⟩ | ⟨g, cap, cur, fz, hv, _⟩
    · exact ⟨_, _, _, hv⟩
    · exact ⟨_, _, _, hv⟩
  go_wp2; go_ret2; refine ⟨rfl, .inr ?_, ?_⟩
  · exact Lib.BuilderAtF.put (T := 95) (e := 5) hB hb2 (bs' := bs ++ Lib.strCells s) (by simpa [Lib.strCells_length] using hown') (by decide)
  · exact (hb1.grown hgrow (by have := hb1.size; omega) (fun k hk => (hown.lt k hk).1)).setCell (p := ⟨b, 1, none⟩) hB _
theorem builder_below {T e : TypeId} {B b : Nat} {bs : List Value} {w w' : World} (h : Lib.IsBuilderF T e B b bs w) (hb : Below w.heap.size w w') : Lib.IsBuilderF T e B b bs w' := by
  have key : ∀ p, Lib.BuilderAtF T e B b p bs w → Lib.BuilderAtF T e B b p bs w' := by
    rintro p ⟨hB, v, hbk, hown, hne⟩
    have lt : ∀ k o, w.heap[k]? = some o → w'.heap[k]? = some o := fun k o ho => by
      rw [hb.block k (Array.getElem?_eq_some_iff.1 ho).1]; exact ho
    refine ⟨hB, v, lt _ _ hbk, ?_, hne⟩; obtain ⟨h1, h2⟩ := hown; refine ⟨h1, ?_⟩
    rcases h2 with h2 | ⟨g, cap, cur, fz, a1, a2, a3, a4⟩
    · exact .inl h2
    · exact .inr ⟨g, cap, cur, fz, a1, a2, lt _ _ a3, a4⟩
  rcases h with h | h
  · exact .inl (key _ h)
  · exact .inr (key _ h)
theorem strCells_mk (l : List UInt8) : Lib.strCells ⟨l.toArray⟩ = Lib.byteCells l := by simp [Lib.strCells, Lib.byteCells]
open Go.RowKit
def hexOk (c : Int) : Bool := digB c || decide (97 ≤ c ∧ c ≤ 102)
def hexVal (c : Nat) : Nat := if 48 ≤ c ∧ c ≤ 57 then c - 48 else if 97 ≤ c ∧ c ≤ 102 then c - 87 else 0
theorem hexVal_lt (c : Nat) : hexVal c < 16 := by unfold hexVal; split <;> (try split) <;> omega
def pairB (s : ByteArray) (j : Nat) : UInt8 := UInt8.ofNat (16 * hexVal (s.data.toList.getD (2 * j) 0).toNat + hexVal (s.data.toList.getD (2 * j + 1) 0).toNat)
def pairsN (s : ByteArray) (n : Nat) : List UInt8 := (List.range n).map (pairB s)
theorem pairsN_length (s : ByteArray) (n : Nat) : (pairsN s n).length = n := by simp [pairsN]
theorem pairsN_succ (s : ByteArray) (n : Nat) : pairsN s (n + 1) = pairsN s n ++ [pairB s n] := by simp [pairsN, List.range_succ]
def hexAll (s : ByteArray) : Bool := decide (s.size % 2 = 0) && s.data.toList.all fun c => hexOk c.toNat
theorem getD_at (s : ByteArray) (k : Nat) (h : k < s.size) : s.data.toList.getD k 0 = s[k] := by
  (have h' : k < s.data.toList.length := by simpa using h); rw [List.getD_eq_getElem?_getD, List.getElem?_eq_getElem h']; rfl
theorem hexAll_odd (s : ByteArray) (h : s.size % 2 ≠ 0) : hexAll s = false := by simp [hexAll, h]
theorem hexAll_no (s : ByteArray) (k : Nat) (h : k < s.size) (hc : hexOk (s[k]'h).toNat = false) : hexAll s = false := by
  (have h' : k < s.data.toList.length := by simpa using h)
  have : (s.data.toList.all fun c => hexOk c.toNat) = false := by
    rw [List.all_eq_false]; exact ⟨_, List.getElem_mem h', by rw [bget s k h h', hc]; simp⟩
  simp [hexAll, this]
theorem hexAll_yes (s : ByteArray) (h : s.size % 2 = 0) (hd : ∀ j (hj : j < s.size), hexOk (s[j]'hj).toNat = true) : hexAll s = true := by
  have : (s.data.toList.all fun c => hexOk c.toNat) = true := by
    rw [List.all_eq_true]; intro c hc; obtain ⟨j, hj, rfl⟩ := List.getElem_of_mem hc; exact hd j (by simpa using hj)
  simp [hexAll, h, this]
theorem hexOk_cases {c : Nat} (h : hexOk c = true) : (48 ≤ c ∧ c ≤ 57 ∧ digB c = true ∧ hexVal c = c - 48) ∨ (97 ≤ c ∧ c ≤ 102 ∧ digB c = false ∧ hexVal c = c - 87) := by
  simp only [hexOk, digB, Bool.or_eq_true, decide_eq_true_eq, decide_eq_false_iff_not] at h ⊢; unfold hexVal
  rcases h with h | h
  · left; rw [if_pos (by omega)]; omega
  · right; rw [if_neg (by omega), if_pos (by omega)]; omega
set_option maxHeartbeats 400000 in
theorem hexValue_yes (c : Nat) (w : World) (h : hexOk c = true) :
    Calls Tryz.prog 146 #[.int .i32 c] w fun e w' => e = .returned (.tuple #[.int .u8 (hexVal c), .bool true]) ∧ w = w' := by
  rcases hexOk_cases h with ⟨h1, h2, h3, h4⟩ | ⟨h1, h2, h3, h4⟩
  · rw [h4]; clear h h4; go_enter Tryz.func146, Tryz.ntmps146; go_wp2_with (go_at_call 170; refine (isDigit_any _ _).mono ?_; rintro e w' ⟨rfl, rfl⟩); go_ret2; refine ⟨?_, rfl⟩; simp
    try omega
  · rw [h4]; clear h h4; (have d1 : decide ((97 : Int) ≤ (c : Int)) = true := by simp; omega); (have d2 : decide ((c : Int) ≤ (102 : Int)) = true := by simp; omega); go_enter Tryz.func146, Tryz.ntmps146; go_wp2_with (go_at_call 170; refine (isDigit_any _ _).mono ?_; rintro e w' ⟨rfl, rfl⟩); go_ret2; refine ⟨?_, rfl⟩; simp
    try omega
set_option maxHeartbeats 400000 in
theorem hexValue_no (c : Nat) (w : World) (h : hexOk c = false) :
    Calls Tryz.prog 146 #[.int .i32 c] w fun e w' => e = .returned (.tuple #[.int .u8 0, .bool false]) ∧ w = w' := by
  simp only [hexOk, Bool.or_eq_false_iff, decide_eq_false_iff_not] at h; obtain ⟨h1, h2⟩ := h
  by_cases h3 : 97 ≤ c
  · (have d1 : decide ((97 : Int) ≤ (c : Int)) = true := by simp; omega); (have d2 : decide ((c : Int) ≤ (102 : Int)) = false := by simp; omega); clear h2; go_enter Tryz.func146, Tryz.ntmps146; go_wp2_with (go_at_call 170; refine (isDigit_any _ _).mono ?_; rintro e w' ⟨rfl, rfl⟩); go_ret2; exact ⟨rfl, rfl⟩
  · (have d1 : decide ((97 : Int) ≤ (c : Int)) = false := by simp; omega); clear h2; go_enter Tryz.func146, Tryz.ntmps146; go_wp2_with (go_at_call 170; refine (isDigit_any _ _).mono ?_; rintro e w' ⟨rfl, rfl⟩); go_ret2; exact ⟨rfl, rfl⟩
open Go.RowKit
def BytesPost (l : List UInt8) (x : Value) (w : World) (e : Ending) (w' : World) : Prop := ∃ a cap, e = .returned (.tuple #[.slice a l.length cap, x]) ∧ Below w.heap.size w w' ∧ BytesAt w' a l
theorem bytesAt_of_owns {w : World} {B : Nat} {v : Value} {l : List UInt8} (h : w.ownsRow B 5 1 v l.length (Lib.byteCells l)) : ∃ a cap, v = .slice a l.length cap ∧ BytesAt w a l := by
  obtain ⟨_, ⟨rfl, h0⟩ | ⟨g, cap, cur, rfl, _, hg, hn, hm, hs, ht⟩⟩ := h
  · refine ⟨none, 0, by rw [h0], ?_⟩; have : l = [] := List.eq_nil_of_length_eq_zero h0; subst this; exact ⟨by simp, .inl rfl⟩
  · refine ⟨_, _, rfl, by omega, .inr ⟨g, 0, rfl, ?_, ?_⟩⟩
    · rcases Nat.lt_or_ge g w.heap.size with h' | h'
      · exact h'
      · simp [Array.getElem?_eq_none h'] at hg
    · intro i hi; (have e : (cur.toList.take (l.length * 1))[i]? = (Lib.byteCells l)[i]? := by rw [ht]); rw [List.getElem?_take, if_pos (by omega)] at e; simp only [World.cell?, hg, Nat.zero_add, Option.isSome_none, Bool.false_eq_true, if_false]; rw [← Array.getElem?_toList, e]; simp [Lib.byteCells, List.getElem?_eq_getElem hi]
theorem owns_lt {w : World} {B g : Nat} {v : Value} {n : Nat} {xs : List Value} (h : w.ownsRow B 5 1 v n xs) (hv : v.ownBlock = some g) : ∃ c fz, w.heap[g]? = some (.cells c 5 fz) := by
  obtain ⟨_, ⟨rfl, _⟩ | ⟨g', cap, cur, rfl, _, hg, _⟩⟩ := h
  · simp [Value.ownBlock] at hv
  · simp [Value.ownBlock] at hv; subst hv; exact ⟨_, _, hg⟩
theorem owns_iter {w : World} {B : Nat} {v : Value} {n : Nat} {xs : List Value} (h : w.ownsRow B 5 1 v n xs) {k : Nat} {s : ByteArray} {p : Nat} (hk : w.heap[k]? = some (.stringIter s p)) (q : Nat) : (w.iterAt k s q).ownsRow B 5 1 v n xs := by
  obtain ⟨h1, h2⟩ := h; refine ⟨h1, ?_⟩
  rcases h2 with h2 | ⟨g, cap, cur, rfl, hB, hg, hr⟩
  · exact .inl h2
  · refine .inr ⟨g, cap, cur, rfl, hB, ?_, hr⟩; rw [Lib.iterAt_other _ _ _ _ _ (fun e => by subst e; rw [hk] at hg; cases hg)]; exact hg
theorem owns_ne {w : World} {B : Nat} {v : Value} {n : Nat} {xs : List Value} (h : w.ownsRow B 5 1 v n xs) {k : Nat} {s : ByteArray} {p : Nat} (hk : w.heap[k]? = some (.stringIter s p)) : some k ≠ v.ownBlock := by
  intro e; obtain ⟨c, fz, hc⟩ := owns_lt h e.symm; rw [hk] at hc; cases hc
def rhInv (s : ByteArray) (w : World) (K : Nat) (v hi : Value) (wr : World) : Prop :=
  ∃ k h : Nat, k ≤ s.size ∧ wr.heap[K]? = some (.stringIter s k) ∧ Below w.heap.size w wr ∧ (∀ j (hj : j < s.size), j < k → hexOk (s[j]'hj).toNat = true) ∧
    wr.ownsRow w.heap.size 5 1 v (k / 2) (Lib.byteCells (pairsN s (k / 2))) ∧ hi = .int .u8 h ∧ h < 16 ∧ (k % 2 = 1 → h = hexVal (s.data.toList.getD (k - 1) 0).toNat)
theorem pair_eq (s : ByteArray) (k : Nat) (hk : k < s.size) (h : Nat) (h1 : k % 2 = 1) (hh : h = hexVal (s.data.toList.getD (k - 1) 0).toNat) :
    ((pairB s (k / 2)).toNat : Int) = 16 * (h : Int) + (hexVal (s[k]'hk).toNat : Int) := by
  (have e1 : 2 * (k / 2) = k - 1 := by omega); (have e2 : 2 * (k / 2) + 1 = k := by omega); unfold pairB; rw [e1, show k - 1 + 1 = k from by omega, ← hh, getD_at s k hk]; have := hexVal_lt (s[k]'hk).toNat; (have h16 : h < 16 := by rw [hh]; exact hexVal_lt _); simp only [UInt8.toNat_ofNat']; omega
def hexBytes (s : ByteArray) : List UInt8 := if hexAll s = true then pairsN s (s.size / 2) else []
def hexErr (s : ByteArray) : Int := if hexAll s = true then 0 else 2
theorem hexBytes_no {s : ByteArray} (h : hexAll s = false) : hexBytes s = [] ∧ hexErr s = 2 := by simp [hexBytes, hexErr, h]
theorem hexBytes_yes {s : ByteArray} (h : hexAll s = true) : hexBytes s = pairsN s (s.size / 2) ∧ hexErr s = 0 := by simp [hexBytes, hexErr, h]
set_option maxHeartbeats 2000000 in
theorem readHex_any (s : ByteArray) (w : World) (hs : s.size ≤ maxLen) (hsm : s.size ≤ 1000000) :
    Calls Tryz.prog 128 #[.string s] w (BytesPost (hexBytes s) (.int .i64 (hexErr s)) w) := by
  by_cases hodd : s.size % 2 = 0
  · (have d1 : (((s.size : Int) % 2) != 0) = false := by rw [bne_eq_false_iff_eq]; omega); have HS := Lib.hid hs; obtain ⟨i0, hi, hz0, hz1, hz2⟩ := info_parts uInfo; have hz2' := Lib.hid hz2; have hod := Lib.hid hodd; clear hs hodd; go_enter Tryz.func128, Tryz.ntmps128; go_wp2_with (at_make; refine wpList_make_own _ rfl _ _ 93 rfl w.heap.size 5 i0 (.int .u8 0) 1 Tryz.underlying93 hi hz0 hz1 .i64 .i64 _ (s.size / 2) rfl rfl ?m1 ?m2 ?m3 ?m4 ?_)
    case m1 => simp
    case m2 => rw [hz2'.out]; omega
    case m3 => unfold maxLen; omega
    case m4 => simp
    intro w1 hown hgrow; have hb1 : Below w.heap.size w w1 := (Below.refl _ w).grown hgrow (Nat.le_refl _) (by simp); have hg := Lib.hid hgrow; have ho := Lib.hid hown; clear hgrow hown d1; go_wp2
    go_loopw [4, 5] (fun v h wr => rhInv s w w1.heap.size v h wr) (fun _ _ wr => s.size - wr.iterPos w1.heap.size)
    case atStart =>
      refine ⟨0, 0, Nat.zero_le _, World.iter_heap w1 s 0, hb1.alloc hb1.size _, fun j hj h => absurd h (Nat.not_lt_zero _), ?_, rfl, by omega, by omega⟩; exact ho.out.alloc _
    case round =>
      obtain ⟨k, h, hk, hit, hb, hall, hown, rfl, hh, hodd⟩ := hrel; have HA := Lib.hid hall; have HO := Lib.hid hown; have HD := Lib.hid hodd; clear hall hown hodd
      by_cases hlt : k < s.size
      · by_cases hc : hexOk (s[k]'hlt).toNat = true
        · have ha : (s[k]'hlt).toNat < 128 := by rcases hexOk_cases hc with ⟨_, _, _⟩ | ⟨_, _, _⟩ <;> omega
          have hnx : ∀ ty, (Instr.next (.pointer (some ⟨w1.heap.size, 0, none⟩)) true ty).run Tryz.prog wr = _ := fun ty => Lib.run_next_ascii_at wr w1.heap.size s k ty hit hlt ha; have hi2 := Lib.hid (Lib.iterAt_heap wr w1.heap.size s k (k + 1) hit); have hb2 := Lib.hid (Lib.below_iterAt hb hb1.size s (k + 1))
          have HN : Hid (∀ j (hj : j < s.size), j < k + 1 → hexOk (s[j]'hj).toNat = true) := Lib.hid (fun j hj h => by
            by_cases e : j = k
            · subst e; exact hc
            · exact HA.out j hj (by omega))
          have HC := Lib.hid hc; have hvl := hexVal_lt (s[k]'hlt).toNat; have Hit := Lib.hid hit; have Hb := Lib.hid hb; clear hit hc
          by_cases hev : k % 2 = 0
          · (have d2 : ((k : Int) % 2 == 0) = true := by rw [beq_iff_eq]; omega); go_wp2_with fail; refine (hexValue_yes _ _ HC.out).mono ?_; rintro e w' ⟨rfl, rfl⟩; go_wp2; refine ⟨⟨k + 1, hexVal (s[k]'hlt).toNat, by omega, hi2.out, hb2.out, HN.out, ?_, rfl, hvl, ?_⟩, ?_⟩
            · rw [show (k + 1) / 2 = k / 2 from by omega]; exact owns_iter HO.out Hit.out _
            · intro _; rw [show k + 1 - 1 = k from by omega, getD_at s k hlt]
            · simp only [World.iterPos, hi2.out, Hit.out]; omega
          · (have d2 : ((k : Int) % 2 == 0) = false := by rw [beq_eq_false_iff_ne]; omega); have hpe := Lib.hid (pair_eq s k hlt h (by omega) (HD.out (by omega))); have HO2 := Lib.hid (owns_iter HO.out Hit.out (k + 1)); generalize hvv : hexVal (s[k]'hlt).toNat = vv at *; (have q1 : (0 : Int) ≤ 16 * (h : Int) + (vv : Int) := by omega); (have q2 : 16 * (h : Int) + (vv : Int) ≤ 255 := by omega); have HVV := Lib.hid hvv; have hszr : w1.heap.size < wr.heap.size := (Array.getElem?_eq_some_iff.1 Hit.out).1; have hsz0 := hb1.size; clear hvv; go_wp2_with fail; refine (hexValue_yes _ _ HC.out).mono ?_; rintro e w' ⟨rfl, rfl⟩; rw [HVV.out]; go_wp2_with (at_builtin; refine wpList_append_own _ rfl _ _ 93 rfl w.heap.size 5 i0 (.int .u8 0) 1 1 Tryz.underlying93 hi hz0 hz1 hz2'.out rfl (by decide) _ _ _ rfl (HO2.out.alloc _) ⟨(wr.iterAt w1.heap.size s (k + 1)).heap.size, 0, none⟩ 1 1 [.int .u8 (16 * (h : Int) + (vv : Int))] rfl rfl ?c1 ?c2 ?c3 ?c4 ?c5 ?_)
            case c1 =>
              intro j u hj
              match j, hj with
              | 0, hj => simp at hj; subst hj; simp [Addr.add]
            case c2 => intro u hu; simp at hu; subst hu; rfl
            case c3 => unfold maxLen; omega
            case c4 => omega
            case c5 => simp [Lib.iterAt_size]; omega
            intro v' w2 hown' hgrow _
            have hit3 : w2.heap[w1.heap.size]? = some (.stringIter s (k + 1)) := by
              rw [hgrow.block _ (by simp [Lib.iterAt_size]; omega) (owns_ne HO2.out hi2.out), Below.heap_alloc _ _ _ (by rw [Lib.iterAt_size]; exact hszr)]; exact hi2.out
            have hb3 : Below w.heap.size w w2 := (hb2.out.alloc (by rw [Lib.iterAt_size]; omega) _).grown hgrow (by simp [Lib.iterAt_size]; omega) (fun g hg => by
              obtain ⟨_, ⟨rfl, _⟩ | ⟨g', cap, cur, rfl, hB, _⟩⟩ := HO2.out
              · simp [Value.ownBlock] at hg
              · simp [Value.ownBlock] at hg; omega)
            have HIT3 := Lib.hid hit3; have HOW := Lib.hid hown'; clear hgrow hit3 hown'; go_wp2; refine ⟨⟨k + 1, h, by omega, HIT3.out, hb3, HN.out, ?_, rfl, hh, by omega⟩, ?_⟩
            · rw [show (k + 1) / 2 = k / 2 + 1 from by omega, pairsN_succ, Lib.byteCells_append]
              have : Lib.byteCells [pairB s (k / 2)] = [.int .u8 (16 * (h : Int) + (vv : Int))] := by
                simp only [Lib.byteCells, List.map_cons, List.map_nil, hpe.out]
              rw [this]; exact HOW.out
            · simp only [World.iterPos, HIT3.out, Hit.out]; omega
        · (have hc' : hexOk (s[k]'hlt).toNat = false := by simpa using hc); have hno := Lib.hid (hexBytes_no (hexAll_no s k hlt hc')); have hnx : ∀ ty, (Instr.next (.pointer (some ⟨w1.heap.size, 0, none⟩)) true ty).run Tryz.prog wr = _ := fun ty => Lib.run_next_any_at wr w1.heap.size s k ty hit hlt; have hb2 := Lib.hid (Lib.below_iterAt hb hb1.size s (k + (Utf8.decode s k).2))
          have hdd : hexOk ((Utf8.decode s k).1 : Nat) = false := by
            by_cases ha : (s[k]'hlt).toNat < 128
            · rw [decode_ascii s k hlt ha]; exact hc'
            · have := (decode_high s k hlt (by omega)).1; simp [hexOk, digB]; omega
          have HDD := Lib.hid hdd; clear hit hc hc' hdd; generalize (Utf8.decode s k).1 = r at *; go_wp2_with fail; refine (hexValue_no _ _ HDD.out).mono ?_; rintro e w' ⟨rfl, rfl⟩; go_wp2; go_ret2; refine ⟨none, 0, by rw [hno.out.1, hno.out.2]; rfl, hb2.out, ?_⟩; rw [hno.out.1]; exact ⟨by simp, .inl rfl⟩
      · have hnx : ∀ ty, (Instr.next (.pointer (some ⟨w1.heap.size, 0, none⟩)) true ty).run Tryz.prog wr = _ := fun ty => Lib.run_next_end_at wr w1.heap.size s k ty hit hlt; (obtain rfl : k = s.size := by omega); have hyes := Lib.hid (hexBytes_yes (hexAll_yes s hod.out (fun j hj => HA.out j hj hj))); obtain ⟨a, cap, rfl, hat⟩ := bytesAt_of_owns (l := pairsN s (s.size / 2)) (by rw [pairsN_length]; exact HO.out); have HAT := Lib.hid hat; clear hit hat; go_wp2; go_ret2; exact ⟨a, cap, by rw [hyes.out.1, hyes.out.2]; rfl, hb, by rw [hyes.out.1]; exact HAT.out⟩
  · (have d1 : (((s.size : Int) % 2) != 0) = true := by rw [bne_iff_ne]; omega); rw [(hexBytes_no (hexAll_odd s hodd)).1, (hexBytes_no (hexAll_odd s hodd)).2]; go_enter Tryz.func128, Tryz.ntmps128; go_wp2; go_ret2; exact ⟨none, 0, rfl, Below.refl _ _, by simp, .inl rfl⟩
end Go.Proofs.YthgghaaddankoaaGreatDoor
