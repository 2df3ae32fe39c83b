/- Lemmas of mine, merged: NumHexA, BuildW. -/
import Derived.Test.YtdkdgbiagjflgaaDoorNumBuildAll
import Derived.Test.YtdkdgbiagjflgaaDoorBaseAll
import Derived.Test.YtdkdgbiagjflgaaDoorShelf
import Derived.WalkSmall
namespace Go.Proofs.YtdkdgbiagjflgaaDoor
open Go.RowKit
def hexD (n : Nat) : UInt8 := if n < 10 then UInt8.ofNat (48 + n) else UInt8.ofNat (87 + n)
def hexL (l : List UInt8) : List UInt8 := l.flatMap fun c => [hexD (c.toNat / 16), hexD (c.toNat % 16)]
theorem hexL_snoc (l : List UInt8) (c : UInt8) : hexL (l ++ [c]) = hexL l ++ [hexD (c.toNat / 16), hexD (c.toNat % 16)] := by simp [hexL]
theorem hexL_length (l : List UInt8) : (hexL l).length = 2 * l.length := by
  induction l with
  | nil => rfl
  | cons c t ih => simp [hexL] at ih ⊢; omega
theorem hexC_fin : ∀ i : Fin 16, (ByteArray.mk #[48, 49, 50, 51, 52, 53, 54, 55, 56, 57, 97, 98, 99, 100, 101, 102])[i.1]'(by have := i.2; exact this) = hexD i.1 := by decide
theorem hexC_at (n : Nat) (h : n < 16) (h' : n < (ByteArray.mk #[48, 49, 50, 51, 52, 53, 54, 55, 56, 57, 97, 98, 99, 100, 101, 102]).size) : (ByteArray.mk #[48, 49, 50, 51, 52, 53, 54, 55, 56, 57, 97, 98, 99, 100, 101, 102])[n] = hexD n := hexC_fin ⟨n, h⟩
def hexInv (l : List UInt8) (w : World) (i : Value) (wr : World) : Prop := ∃ k : Nat, k ≤ l.length ∧ i = .int .i64 k ∧ Lib.IsBuilderF 49 5 w.heap.size w.heap.size (Lib.byteCells (hexL (l.take k))) wr ∧ Below w.heap.size w wr
set_option maxHeartbeats 1000000 in
theorem hex_any (a : Option Addr) (l : List UInt8) (cap : Nat) (w : World) (h : BytesAt w a l) (hl : l.length ≤ 1000000) :
    Calls Tryd.prog 35 #[.slice a l.length cap] w fun e w' => e = .returned (.string ⟨(hexL l).toArray⟩) ∧ Below w.heap.size w w' := by
  have hS := Lib.hid h
  clear h
  go_enter Tryd.func35, Tryd.ntmps35
  go_wp2
  go_loopw [8] (fun i wr => hexInv l w i wr) (fun i _ => l.length - (intOf i).toNat)
  case atStart => exact ⟨0, Nat.zero_le _, rfl, Lib.IsBuilderF.of (Lib.fresh_isBuilder _ _ w), (Below.refl _ _).alloc (Nat.le_refl _) _⟩
  case round =>
    obtain ⟨k, hk, rfl, hI, hb⟩ := hrel
    have hsz := hb.size
    by_cases hlt : k < l.length
    · obtain ⟨b, off, hab, hblt, hc⟩ : ∃ b off, a = some ⟨b, off, none⟩ ∧ b < w.heap.size ∧ ∀ i (h : i < l.length), w.cell? ⟨b, off + i, none⟩ = some (.int .u8 l[i].toNat) := by
        rcases hS.out.2 with h | h
        · subst h; simp at hlt
        · exact h
      subst hab
      have hcell : wr.cell? ⟨b, off + k, none⟩ = some (.int .u8 l[k].toNat) := by rw [hb.cell (p := ⟨b, off + k, none⟩) hblt]; exact hc k hlt
      clear hc
      have h255 : (l[k].toNat : Int) ≤ 255 := by have := l[k].toNat_lt; omega
      have hI' := Lib.hid hI
      have hlen : (Lib.byteCells (hexL (l.take k))).length ≤ 2000000 := by rw [Lib.byteCells_length, hexL_length]; simp; omega
      have hsn : hexL (l.take (k + 1)) = hexL (l.take k) ++ [hexD (l[k].toNat / 16), hexD (l[k].toNat % 16)] := by
        rw [List.take_succ_eq_append_getElem hlt, hexL_snoc]
      have HS := Lib.hid hsn
      have h16 : l[k].toNat / 16 < 16 := by have := l[k].toNat_lt; omega
      have h16' : l[k].toNat % 16 < 16 := by omega
      clear hI hsn
      go_wp2_with fail
      rw [hexC_at _ h16]
      refine (writeByte_any w.heap.size w.heap.size _ _ _ hI'.out (by omega) (by omega)).mono ?_
      rintro e w1 ⟨rfl, hI1, hb1, -⟩
      have HI1 := Lib.hid hI1
      clear hI1
      have hs1 := hb1.size
      go_wp2_with fail
      rw [hexC_at _ h16']
      refine (writeByte_any w.heap.size w.heap.size _ _ _ HI1.out (by simp; omega) (by omega)).mono ?_
      rintro e w2 ⟨rfl, hI2, hb2, -⟩
      have HI2 := Lib.hid hI2
      clear hI2
      go_wp2
      refine ⟨⟨k + 1, by omega, by go_num, ?_, (hb.trans hb1).trans hb2⟩, by simp [intOf]; omega⟩
      rw [HS.out, Lib.byteCells_append]
      simpa [Lib.byteCells] using HI2.out
    · have he : l.take k = l := List.take_of_length_le (by omega)
      rw [he] at hI
      have hI' := Lib.hid hI
      clear hI he
      go_wp2_with fail
      refine (Tryd.Builder_String_any_k w.heap.size w.heap.size (hexL l) _ hI'.out (by omega)).mono ?_
      rintro e w1 ⟨rfl, -, hb1, -⟩
      go_wp2
      go_ret
      exact ⟨rfl, hb.trans hb1⟩
end Go.Proofs.YtdkdgbiagjflgaaDoor
/- strings.Builder's WriteString at this seat's dump. -/
namespace Go.Proofs.YtdkdgbiagjflgaaDoor
open Go.RowKit
set_option maxHeartbeats 2000000 in
set_option maxRecDepth 100000 in
theorem writeString_any (B b : Nat) (bs : List Value) (s : ByteArray) (w : World) (h : Lib.IsBuilderF 49 5 B b bs w) (hlen : bs.length + s.size ≤ 140737488355328) (hBw : B ≤ w.heap.size) :
    Calls Tryd.prog 50 #[.pointer (some ⟨b, 0, none⟩), .string s] w fun e w' => e = .returned (.tuple #[.int .i64 s.size, .nilIface]) ∧ Lib.IsBuilderF 49 5 B b (bs ++ Lib.strCells s) w' ∧ Below B w w' := by
  obtain ⟨i0, hi, hz0, hz1, hz2⟩ := info_parts uInfo
  go_enter Tryd.func50, Tryd.ntmps50
  go_wp2_with fail
  refine (copyCheck_any B b bs _ h).mono ?_
  rintro e w1 ⟨rfl, h1, hb1, hk1⟩
  obtain ⟨hB, v, hbk, hown, hne⟩ := h1
  have c0 : w1.cell? ⟨b, 0, none⟩ = some (.pointer (some ⟨b, 0, none⟩)) := by rw [Lib.cell_of_heap hbk]; rfl
  have c1 : w1.cell? ⟨b, 1, none⟩ = some v := by rw [Lib.cell_of_heap hbk]; rfl
  go_wp2_with (at_builtin; refine Lib.wpList_append_own_stringF _ rfl _ _ 47 9 rfl B 5 i0 Tryd.underlying47 Tryd.underlying9 hi hz0 hz1 hz2 _ _ _ rfl hown s rfl ?c3 ?c4 ?c5 ?_)
  case c3 => unfold maxLen; omega
  case c4 => omega
  case c5 => have := hb1.size; omega
  intro v' w2 hown' hgrow _
  have hlt : b < w1.heap.size := by
    rcases Nat.lt_or_ge b w1.heap.size with h' | h'
    · exact h'
    · simp [Array.getElem?_eq_none h'] at hbk
  have hb2 : w2.heap[b]? = some (.cells #[.pointer (some ⟨b, 0, none⟩), v] 49 (0, 0)) := by
    rw [hgrow.block b hlt (fun e => hne e.symm)]
    exact hbk
  have d0 : w2.cell? ⟨b, 0, none⟩ = some (.pointer (some ⟨b, 0, none⟩)) := by rw [Lib.cell_of_heap hb2]; rfl
  have d1 : w2.cell? ⟨b, 1, none⟩ = some v := by rw [Lib.cell_of_heap hb2]; rfl
  have f1 : w2.frozen? ⟨b, 1, none⟩ = false := Lib.frozen_of_heap hb2 1
  obtain ⟨ao, n', cap, rfl⟩ : ∃ ao n' cap, v' = .slice ao n' cap := by
    rcases hown'.2 with ⟨hv, _⟩ | ⟨g, cap, cur, fz, hv, _⟩
    · exact ⟨_, _, _, hv⟩
    · exact ⟨_, _, _, hv⟩
  go_wp2
  go_ret2
  refine ⟨rfl, .inr ?_, ?_⟩
  · exact Lib.BuilderAtF.put (T := 49) (e := 5) hB hb2 (bs' := bs ++ Lib.strCells s) (by simpa [Lib.strCells_length] using hown') (by decide)
  · exact (hb1.grown hgrow (by have := hb1.size; omega) (fun k hk => (hown.lt k hk).1)).setCell (p := ⟨b, 1, none⟩) hB _
theorem builder_below {T e : TypeId} {B b : Nat} {bs : List Value} {w w' : World} (h : Lib.IsBuilderF T e B b bs w) (hb : Below w.heap.size w w') : Lib.IsBuilderF T e B b bs w' := by
  have key : ∀ p, Lib.BuilderAtF T e B b p bs w → Lib.BuilderAtF T e B b p bs w' := by
    rintro p ⟨hB, v, hbk, hown, hne⟩
    have lt : ∀ k o, w.heap[k]? = some o → w'.heap[k]? = some o := fun k o ho => by
      rw [hb.block k (Array.getElem?_eq_some_iff.1 ho).1]; exact ho
    refine ⟨hB, v, lt _ _ hbk, ?_, hne⟩
    obtain ⟨h1, h2⟩ := hown
    refine ⟨h1, ?_⟩
    rcases h2 with h2 | ⟨g, cap, cur, fz, a1, a2, a3, a4⟩
    · exact .inl h2
    · exact .inr ⟨g, cap, cur, fz, a1, a2, lt _ _ a3, a4⟩
  rcases h with h | h
  · exact .inl (key _ h)
  · exact .inr (key _ h)
theorem strCells_mk (l : List UInt8) : Lib.strCells ⟨l.toArray⟩ = Lib.byteCells l := by simp [Lib.strCells, Lib.byteCells]
end Go.Proofs.YtdkdgbiagjflgaaDoor
