/- quillref03's count and Great. -/
import Derived.Test.YtdkdgbiagjflgaaDoorRexM
import Derived.IntWalk
namespace Go.Proofs.YtdkdgbiagjflgaaDoor
open Go.RowKit
/-- What count answers of an expression that isn't too great for any machine: the size, or some number that is too great as well. -/
def cntOk (z : Int) (most size : Nat) : Prop := ∃ c : Nat, z = c ∧ c ≤ size ∧ (size ≤ most → c = size) ∧ (most < size → most < c)
theorem cntOk_add {n z : Int} {most a b : Nat} (h : cntOk n most a) (hn : ¬ (most : Int) < n) (h' : cntOk z most b) (hm : a + b ≤ 1000000000) : cntOk (wrap64 (n + z)) most (a + b) := by
  obtain ⟨c, rfl, h1, h2, h3⟩ := h
  obtain ⟨d, rfl, e1, e2, e3⟩ := h'
  have hw : wrap64 ((c : Int) + (d : Int)) = ((c + d : Nat) : Int) := by unfold wrap64; omega
  refine ⟨c + d, hw, by omega, ?_, ?_⟩
  · intro h; have := h2 (by omega); have := e2 (by omega); omega
  · intro h
    by_cases q : a ≤ most
    · have := h2 q
      by_cases q' : b ≤ most
      · have := e2 q'; omega
      · have := e3 (by omega); omega
    · have := h3 (by omega); omega
def CountPost (r : Rx) (most : Nat) (w : World) (e : Ending) (w' : World) : Prop := ∃ z : Int, e = .returned (.int .i64 z) ∧ (r.size ≤ 1000000000 → cntOk z most r.size) ∧ Below w.heap.size w w'
def countInv (ks : List Rx) (most : Nat) (w : World) (g : Nat) (v : Value) (x y : Value) (wr : World) : Prop := ∃ (i : Nat) (n : Int), i ≤ ks.length ∧ x = .int .i64 n ∧ y = .int .i64 i ∧ (1 + Rx.sizes ks ≤ 1000000000 → cntOk n most (1 + Rx.sizes (ks.take i))) ∧ wr.cell? ⟨g, 5, none⟩ = some v ∧ Below w.heap.size w wr
theorem box_lt {w : World} {g o : Nat} {v : Value} (h : w.cell? ⟨g, o, none⟩ = some v) : g < w.heap.size := by
  rcases Nat.lt_or_ge g w.heap.size with h' | h'
  · exact h'
  · simp [World.cell?, Array.getElem?_eq_none h'] at h
set_option maxHeartbeats 2000000 in
theorem count_any {ok : Nat → Prop} (N : Nat) : ∀ (r : Rx), r.size ≤ N → ∀ (most : Nat) (v : Value) (w : World), ReAt ok w v r → most ≤ 1000000 →
    Calls Tryd.prog 30 #[v, .int .i64 most] w (CountPost r most w) := by
  induction N with
  | zero => intro r h; have := r.size_pos; omega
  | succ N ih =>
    rintro ⟨k, s, ks⟩ hN most v w hR hmost
    obtain ⟨hk, hs, al, cap, rfl, hcap, hmax, hrow⟩ := hR
    have hN' : Rx.sizes ks ≤ N := by simp [Rx.size] at hN; omega
    have IH := Lib.hid ih
    have HR := Lib.hid hrow
    have HSZ := Lib.hid (show (Rx.node k s ks).size = 1 + Rx.sizes ks from by simp [Rx.size])
    obtain ⟨sa, sb, sc, sd⟩ := s
    clear ih hrow hN
    go_enter Tryd.func30, Tryd.ntmps30
    go_wp2
    go_loopw [5, 10] (fun x y wr => countInv ks most w w.heap.size (.slice al ks.length cap) x y wr) (fun _ y _ => ks.length - (intOf y).toNat)
    case atStart =>
      refine ⟨0, 1, Nat.zero_le _, rfl, rfl, fun _ => ⟨1, rfl, by simp, by simp [Rx.sizes], by simp [Rx.sizes]⟩, ?_, (Below.refl _ _).alloc (Nat.le_refl _) _⟩
      simp
    case round =>
      obtain ⟨i, n, hi, rfl, rfl, h1, hc5, hb⟩ := hrel
      have H1 := Lib.hid h1
      clear h1
      by_cases hlt : i < ks.length
      · by_cases hgt : (most : Int) < n
        · have d1 : decide ((most : Int) < n) = true := by simpa using hgt
          go_wp2
          go_ret
          refine ⟨n, rfl, ?_, hb⟩
          rw [HSZ.out]
          intro h
          obtain ⟨c, rfl, e1, e2, e3⟩ := H1.out h
          have hle := sizes_take_le ks i
          exact ⟨c, rfl, by omega, fun q => by have := e2 (by omega); omega, fun q => by omega⟩
        · have d1 : decide ((most : Int) < n) = false := by simpa using hgt
          obtain ⟨b, off, hab, hblt, hnode⟩ := HR.out.kid hlt
          subst hab
          have hkid := NodeAt.below hb _ hblt hnode
          have hks := size_kid hlt
          have htk := sizes_take ks i hlt
          have hle2 := sizes_take_le ks (i + 1)
          generalize ks[i] = kid at *
          obtain ⟨k', ⟨ta, tb, tc, td⟩, ks'⟩ := kid
          obtain ⟨al', cap', ⟨c0, c1, c2, c3, c4, c5⟩, hre⟩ := hkid.read
          have KC := Lib.hid (IH.out (.node k' ⟨ta, tb, tc, td⟩ ks') (by omega) most _ wr hre hmost)
          have HTK := Lib.hid htk
          have HGT := Lib.hid hgt
          have HLE := Lib.hid hle2
          simp only at c0 c1 c2 c3 c4 c5
          clear hkid hre hnode htk hgt hle2
          go_wp2_with fail
          refine KC.out.mono ?_
          rintro e w1 ⟨c, rfl, e1, hb1⟩
          have E1 := Lib.hid e1
          have hc5' := hb1.cell (p := ⟨w.heap.size, 5, none⟩) (box_lt hc5)
          rw [hc5] at hc5'
          replace hb := hb.trans (hb1.mono hb.size)
          clear e1 c0 c1 c2 c3 c4 c5 hb1 hc5
          go_wp2
          refine ⟨⟨i + 1, _, by omega, rfl, by go_num, ?_, hc5', hb⟩, by simp [intOf]; omega⟩
          intro h
          have ht := HTK.out
          have hl := HLE.out
          rw [ht, ← Nat.add_assoc]
          exact cntOk_add (H1.out h) (by have := HGT.out; omega) (E1.out (by omega)) (by omega)
      · have he : ks.take i = ks := List.take_of_length_le (by omega)
        rw [he] at H1
        go_wp2
        go_ret
        exact ⟨n, rfl, by rw [HSZ.out]; exact H1.out, hb⟩
def greatB (r : Rx) (most : Nat) : Bool := decide (most < r.size)
set_option maxHeartbeats 1000000 in
theorem great_any {ok : Nat → Prop} (r : Rx) (most : Nat) (v : Value) (w : World) (h : ReAt ok w v r) (hmost : most ≤ 1000000) :
    Calls Tryd.prog 13 #[v, .int .i64 most] w fun e w' => (∃ q, e = .returned (.bool q) ∧ (r.size ≤ 1000000000 → q = greatB r most)) ∧ Below w.heap.size w w' := by
  have KC := Lib.hid fun W (h : ReAt ok W v r) => count_any r.size r (Nat.le_refl _) most v W h hmost
  obtain ⟨k, s, ks⟩ := r
  have HR := Lib.hid h
  obtain ⟨hk, hs, al, cap, rfl, hcap, hmax, hrow⟩ := h
  clear hrow
  obtain ⟨sa, sb, sc, sd⟩ := s
  generalize Rx.node k ⟨sa, sb, sc, sd⟩ ks = r at *
  go_enter Tryd.func13, Tryd.ntmps13
  go_wp2_with fail
  refine (KC.out _ (HR.out.below ((Below.refl _ w).alloc (Nat.le_refl _) _))).mono ?_
  rintro e w1 ⟨z, rfl, e1, hb1⟩
  have E1 := Lib.hid e1
  clear e1
  go_wp2
  go_ret
  refine ⟨⟨_, rfl, fun h => ?_⟩, ((Below.refl _ w).alloc (Nat.le_refl _) _).trans (hb1.mono (by simp))⟩
  obtain ⟨c, rfl, e1, e2, e3⟩ := E1.out h
  unfold greatB
  rw [decide_eq_decide]
  by_cases h : r.size ≤ most
  · have := e2 h; omega
  · have := e3 (by omega); omega
end Go.Proofs.YtdkdgbiagjflgaaDoor
