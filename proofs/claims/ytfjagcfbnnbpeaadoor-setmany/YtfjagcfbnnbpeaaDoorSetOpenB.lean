/- Slices of bytes and of sets, opened. -/
import Derived.Test.YtfjagcfbnnbpeaaDoorSetOpen
import Derived.Deep.Fields
import Derived.ChangeSame
namespace Go.Proofs.YtfjagcfbnnbpeaaDoor
open Go.ChangeShapes Go.WideShapes Go.ChangeAt Go.RowKit Go.Deep
theorem first_lt {w : World} {a : Addr} {v : Value} (h : w.cell? (a.add 0) = some v) : a.block < w.heap.size := by
  unfold World.cell? at h
  have e : (a.add 0).block = a.block := rfl
  rw [e] at h
  rcases Nat.lt_or_ge a.block w.heap.size with g | g
  · exact g
  · rw [Array.getElem?_eq_none g] at h; simp at h
theorem open_bytes8 {H : Type} {enc : TypeId × Value → H} {W : World} {held : Bool} {a : Option Addr} {len cap : Nat} {d : DataW H} {p : List MemPlace}
    (h : DataW.Trod enc Tryd.prog W 0 (fun _ => true) held 22 (.slice a len cap) d p) : ∃ l : List UInt8, l.length = len ∧ BytesAt W a l := by
  obtain ⟨fuel, hf⟩ := h
  rcases open_ints Tryd.underlying22 Tryd.underlying5 (by kernel_rfl) hf with ⟨hcs, _⟩ | ⟨x, l, c, zs, hcs, _, hl, hm, hz, _, hcell, hwz⟩
  · simp [Value.cells] at hcs
    obtain ⟨rfl, rfl, rfl⟩ := hcs
    exact ⟨[], rfl, by simp, .inl rfl⟩
  · simp [Value.cells] at hcs
    obtain ⟨rfl, rfl, rfl⟩ := hcs
    have hz' : zs.length = cap := by simpa using hz
    refine ⟨(zs.take len).map fun z => UInt8.ofNat z.toNat, by simp; omega, by simp; omega, ?_⟩
    by_cases hp : 0 < zs.length
    · obtain ⟨b, off, spot⟩ := x
      have hspot : spot = none := by simpa [Addr.add] using World.cell?_spot (hcell 0 hp)
      subst hspot
      refine .inr ⟨b, off, rfl, first_lt (hcell 0 hp), fun i h => ?_⟩
      have hi : i < zs.length := by simp at h; omega
      rw [← Go.WideShapes.add_plain, hcell i hi]
      obtain ⟨m, hm', hlt⟩ := u8_nat (hwz zs[i] (List.getElem_mem hi))
      simp only [List.getD_eq_getElem?_getD, List.getElem?_eq_getElem hi, Option.getD_some, List.getElem_map, List.getElem_take, UInt8.toNat_ofNat']
      rw [show ((zs[i].toNat % 2 ^ 8 : Nat) : Int) = zs[i] from by omega]
    · left; have : zs = [] := List.eq_nil_of_length_eq_zero (by omega)
      rw [this]; simp
end Go.Proofs.YtfjagcfbnnbpeaaDoor
