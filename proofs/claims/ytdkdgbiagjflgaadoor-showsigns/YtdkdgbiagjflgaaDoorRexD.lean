/- quillref03's GreatAll. -/
import Derived.Test.YtdkdgbiagjflgaaDoorRexC
namespace Go.Proofs.YtdkdgbiagjflgaaDoor
open Go.RowKit
def greatAllB (l : List Rx) (most : Nat) : Bool := decide (20 < l.length) || l.any fun r => greatB r most
def gaInv (l : List Rx) (most : Nat) (w : World) (y : Value) (wr : World) : Prop := ∃ i : Nat, i ≤ l.length ∧ y = .int .i64 i ∧ (Rx.sizes l ≤ 1000000000 → (l.take i).any (fun r => greatB r most) = false) ∧ Below w.heap.size w wr
def GaPost (l : List Rx) (most : Nat) (w : World) (e : Ending) (w' : World) : Prop := ∃ q : Bool, e = .returned (.bool q) ∧ (q = false → l.length ≤ 20) ∧ (Rx.sizes l ≤ 1000000000 → q = greatAllB l most) ∧ Below w.heap.size w w'
set_option maxHeartbeats 2000000 in
theorem greatAll_any {ok : Nat → Prop} (l : List Rx) (most : Nat) (al : Option Addr) (cap : Nat) (w : World) (h : RowAt ok w al l) (hlen : l.length < 2199023255552) (hmost : most ≤ 1000000) :
    Calls Tryd.prog 7 #[.slice al l.length cap, .int .i64 most] w (GaPost l most w) := by
  have HR := Lib.hid h
  clear h
  by_cases h20 : 20 < l.length
  · have d : decide ((20 : Int) < (l.length : Int)) = true := by simp; omega
    have HG := Lib.hid (show greatAllB l most = true from by simp [greatAllB, h20])
    go_enter Tryd.func7, Tryd.ntmps7
    go_wp2
    go_ret
    exact ⟨true, rfl, fun h => (by cases h), fun _ => HG.out.symm, Below.refl _ w⟩
  · have d : decide ((20 : Int) < (l.length : Int)) = false := by simp; omega
    have HG := Lib.hid (show greatAllB l most = l.any (fun r => greatB r most) from by simp [greatAllB, h20])
    go_enter Tryd.func7, Tryd.ntmps7
    go_wp2
    go_loopw [11] (fun y wr => gaInv l most w y wr) (fun y _ => l.length - (intOf y).toNat)
    case atStart => exact ⟨0, Nat.zero_le _, rfl, by simp, Below.refl _ w⟩
    case round =>
      obtain ⟨i, hi, rfl, h1, hb⟩ := hrel
      have H1 := Lib.hid h1
      clear h1
      by_cases hlt : i < l.length
      · obtain ⟨b, off, hab, hblt, hnode⟩ := HR.out.kid hlt
        subst hab
        have hkid := NodeAt.below hb _ hblt hnode
        have hks := size_kid hlt
        have htk : (l.take (i + 1)).any (fun r => greatB r most) = ((l.take i).any (fun r => greatB r most) || greatB l[i] most) := by
          rw [List.take_succ_eq_append_getElem hlt, List.any_append, List.any_cons, List.any_nil, Bool.or_false]
        have hin : greatB l[i] most = true → l.any (fun r => greatB r most) = true := fun h => List.any_eq_true.2 ⟨l[i], List.getElem_mem hlt, h⟩
        have HT := Lib.hid htk
        have HI := Lib.hid hin
        have HKS := Lib.hid hks
        clear htk hin hks
        generalize l[i] = kid at *
        obtain ⟨k', ⟨ta, tb, tc, td⟩, ks'⟩ := kid
        obtain ⟨al', cap', ⟨c0, c1, c2, c3, c4, c5⟩, hre⟩ := hkid.read
        have KC := Lib.hid (great_any _ most _ wr hre hmost)
        simp only at c0 c1 c2 c3 c4 c5
        clear hkid hre hnode
        go_wp2_with fail
        refine KC.out.mono ?_
        rintro e w1 ⟨⟨g, rfl, hg⟩, hb1⟩
        have HGr := Lib.hid hg
        replace hb := hb.trans (hb1.mono hb.size)
        clear c0 c1 c2 c3 c4 c5 hb1 hg
        cases g
        · go_wp2
          refine ⟨⟨i + 1, by omega, by go_num, fun h => ?_, hb⟩, by simp [intOf]; omega⟩
          rw [HT.out, H1.out h, ← HGr.out (by have := HKS.out; omega)]; rfl
        · go_wp2
          go_ret
          refine ⟨true, rfl, fun h => (by cases h), fun h => ?_, hb⟩
          rw [HG.out, HI.out (HGr.out (by have := HKS.out; omega)).symm]
      · have he : l.take i = l := List.take_of_length_le (by omega)
        rw [he] at H1
        go_wp2
        go_ret
        exact ⟨false, rfl, fun _ => (by omega), fun h => (by rw [HG.out, H1.out h]), hb⟩
end Go.Proofs.YtdkdgbiagjflgaaDoor
