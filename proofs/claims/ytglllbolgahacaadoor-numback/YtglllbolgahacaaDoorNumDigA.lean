/- strings.Builder's WriteString at this seat's dump; decimal digits; num.Digits. -/
import Derived.Test.YtglllbolgahacaaDoorNumHexA
import Derived.Lib.LaidTab
import Derived.WalkSmall
namespace Go.Proofs.YtglllbolgahacaaDoor
open Go.RowKit
set_option maxHeartbeats 2000000 in
set_option maxRecDepth 100000 in
theorem writeString_any (B b : Nat) (bs : List Value) (s : ByteArray) (w : World) (h : Lib.IsBuilderF 36 5 B b bs w) (hlen : bs.length + s.size ≤ 140737488355328) (hBw : B ≤ w.heap.size) :
    Calls Tryd.prog 12 #[.pointer (some ⟨b, 0, none⟩), .string s] w fun e w' => e = .returned (.tuple #[.int .i64 s.size, .nilIface]) ∧ Lib.IsBuilderF 36 5 B b (bs ++ Lib.strCells s) w' ∧ Below B w w' := by
  obtain ⟨i0, hi, hz0, hz1, hz2⟩ := info_parts uInfo
  go_enter Tryd.func12, Tryd.ntmps12
  go_wp2_with fail
  refine (copyCheck_any B b bs _ h).mono ?_
  rintro e w1 ⟨rfl, h1, hb1, hk1⟩
  obtain ⟨hB, v, hbk, hown, hne⟩ := h1
  have c0 : w1.cell? ⟨b, 0, none⟩ = some (.pointer (some ⟨b, 0, none⟩)) := by rw [Lib.cell_of_heap hbk]; rfl
  have c1 : w1.cell? ⟨b, 1, none⟩ = some v := by rw [Lib.cell_of_heap hbk]; rfl
  go_wp2_with (at_builtin; refine Lib.wpList_append_own_stringF _ rfl _ _ 34 9 rfl B 5 i0 Tryd.underlying34 Tryd.underlying9 hi hz0 hz1 hz2 _ _ _ rfl hown s rfl ?c3 ?c4 ?c5 ?_)
  case c3 => unfold maxLen; omega
  case c4 => omega
  case c5 => have := hb1.size; omega
  intro v' w2 hown' hgrow _
  have hlt : b < w1.heap.size := by
    rcases Nat.lt_or_ge b w1.heap.size with h' | h'
    · exact h'
    · simp [Array.getElem?_eq_none h'] at hbk
  have hb2 : w2.heap[b]? = some (.cells #[.pointer (some ⟨b, 0, none⟩), v] 36 (0, 0)) := by
    rw [hgrow.block b hlt (fun e => hne e.symm)]
    exact hbk
  have d0 : w2.cell? ⟨b, 0, none⟩ = some (.pointer (some ⟨b, 0, none⟩)) := by rw [Lib.cell_of_heap hb2]; rfl
  have d1 : w2.cell? ⟨b, 1, none⟩ = some v := by rw [Lib.cell_of_heap hb2]; rfl
  have f1 : w2.frozen? ⟨b, 1, none⟩ = false := Lib.frozen_of_heap hb2 1
  obtain ⟨ao, n', cap, rfl⟩ : ∃ ao n' cap, v' = .slice ao n' cap := by
    rcases hown'.2 with ⟨hv, _⟩ | ⟨g, cap, cur, fz, hv, _⟩
    · exact ⟨_, _, _, hv⟩
    · exact ⟨_, _, _, hv⟩
  go_wp2
  go_ret2
  refine ⟨rfl, .inr ?_, ?_⟩
  · exact Lib.BuilderAtF.put (T := 36) (e := 5) hB hb2 (bs' := bs ++ Lib.strCells s) (by simpa [Lib.strCells_length] using hown') (by decide)
  · exact (hb1.grown hgrow (by have := hb1.size; omega) (fun k hk => (hown.lt k hk).1)).setCell (p := ⟨b, 1, none⟩) hB _
theorem builder_below {T e : TypeId} {B b : Nat} {bs : List Value} {w w' : World} (h : Lib.IsBuilderF T e B b bs w) (hb : Below w.heap.size w w') : Lib.IsBuilderF T e B b bs w' := by
  have key : ∀ p, Lib.BuilderAtF T e B b p bs w → Lib.BuilderAtF T e B b p bs w' := by
    rintro p ⟨hB, v, hbk, hown, hne⟩
    have lt : ∀ k o, w.heap[k]? = some o → w'.heap[k]? = some o := fun k o ho => by
      rw [hb.block k (Array.getElem?_eq_some_iff.1 ho).1]; exact ho
    refine ⟨hB, v, lt _ _ hbk, ?_, hne⟩
    obtain ⟨h1, h2⟩ := hown
    refine ⟨h1, ?_⟩
    rcases h2 with h2 | ⟨g, cap, cur, fz, a1, a2, a3, a4⟩
    · exact .inl h2
    · exact .inr ⟨g, cap, cur, fz, a1, a2, lt _ _ a3, a4⟩
  rcases h with h | h
  · exact .inl (key _ h)
  · exact .inr (key _ h)
theorem below_grow (w : World) (k : Nat) (os : Array Obj) : Below w.heap.size w (Sort.grow (w.drewN k) os) :=
  ⟨rfl, rfl, rfl, by simp [Sort.grow], fun j hj => by
    show (w.heap ++ os)[j]? = w.heap[j]?
    rw [Array.getElem?_append_left hj]⟩
/-- The table that strconv.Itoa reads lies in the world. -/
abbrev Pow10 (w : World) : Prop := Lib.TabIs Tryd.prog w "internal/strconv.uint64pow10" .u64 Lib.pow10Tab
theorem gPow : Tryd.prog.globalNamed "internal/strconv.uint64pow10" = some 0 := by kernel_rfl
theorem pow10_pos {w : World} (h : Pow10 w) : 0 < w.heap.size := by
  have h0 := Lib.TabIs.cell h gPow 0 (by decide)
  rcases Nat.lt_or_ge 0 w.heap.size with g | g
  · exact g
  · simp [World.cell?, Array.getElem?_eq_none g] at h0
theorem pow10_below {B : Nat} {w w' : World} (h : Pow10 w) (hb : Below B w w') (hB : 0 < B) : Pow10 w' := var?_below hb gPow hB h
/-- A slice of ints that was there. -/
def IntsAt (w : World) (a : Option Addr) (zs : List Int) : Prop :=
  zs.length ≤ maxLen ∧ (zs = [] ∨ ∃ b off, a = some ⟨b, off, none⟩ ∧ b < w.heap.size ∧ ∀ i (h : i < zs.length), w.cell? ⟨b, off + i, none⟩ = some (.int .i64 zs[i]))
theorem IntsAt.below {w w' : World} {a : Option Addr} {l : List Int} (h : IntsAt w a l) (hb : Below w.heap.size w w') : IntsAt w' a l := by
  obtain ⟨h2, h3⟩ := h
  refine ⟨h2, ?_⟩
  rcases h3 with h3 | ⟨b, off, rfl, hlt, hc⟩
  · exact .inl h3
  · exact .inr ⟨b, off, rfl, Nat.lt_of_lt_of_le hlt hb.size, fun i h => by rw [hb.cell (p := ⟨b, off + i, none⟩) hlt]; exact hc i h⟩
def digL (n : Int) : List UInt8 := if 0 ≤ n ∧ n ≤ 1000000 then Lib.decDigits n.toNat else []
def joinL (zs : List Int) : List UInt8 := (zs.foldl (fun (p : List UInt8 × Bool) z => (p.1 ++ (if p.2 then [32] else []) ++ digL z, true)) ([], false)).1
theorem joinL_flag (zs : List Int) (p : List UInt8 × Bool) : (zs.foldl (fun (p : List UInt8 × Bool) z => (p.1 ++ (if p.2 then [32] else []) ++ digL z, true)) p).2 = (p.2 || !zs.isEmpty) := by
  induction zs generalizing p with
  | nil => simp
  | cons z t ih => rw [List.foldl_cons, ih]; simp
theorem joinL_snoc (zs : List Int) (z : Int) : joinL (zs ++ [z]) = joinL zs ++ (if zs.isEmpty then [] else [32]) ++ digL z := by
  unfold joinL
  rw [List.foldl_append, List.foldl_cons, List.foldl_nil]
  simp only
  rw [joinL_flag]
  cases zs <;> simp
theorem dec_len (u : Nat) : (Lib.decDigits u).length ≤ u + 1 := by
  induction u using Nat.strongRecOn with
  | ind u ih =>
    rw [Lib.decDigits]
    split
    · simp
    · have := ih (u / 10) (by omega)
      simp; omega
theorem dig_len (n : Int) : (digL n).length ≤ 1000001 := by
  unfold digL
  split
  · have := dec_len n.toNat; omega
  · simp
theorem join_len (zs : List Int) (k : Nat) (hk : k ≤ zs.length) : (joinL (zs.take k)).length ≤ 1000002 * k := by
  induction k with
  | zero => simp [joinL]
  | succ k ih =>
    rw [List.take_succ_eq_append_getElem (by omega), joinL_snoc]
    have := ih (by omega)
    have h2 := dig_len zs[k]
    have h3 : (if (zs.take k).isEmpty then ([] : List UInt8) else [32]).length ≤ 1 := by split <;> simp
    simp only [List.length_append]
    omega
theorem strCells_mk (l : List UInt8) : Lib.strCells ⟨l.toArray⟩ = Lib.byteCells l := by simp [Lib.strCells, Lib.byteCells]
def digInv (zs : List Int) (w : World) (i : Value) (wr : World) : Prop := ∃ k : Nat, k ≤ zs.length ∧ i = .int .i64 k ∧ Lib.IsBuilderF 36 5 w.heap.size w.heap.size (Lib.byteCells (joinL (zs.take k))) wr ∧ Below w.heap.size w wr
end Go.Proofs.YtglllbolgahacaaDoor
