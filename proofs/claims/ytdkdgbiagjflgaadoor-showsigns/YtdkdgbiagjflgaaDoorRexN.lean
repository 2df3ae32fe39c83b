/- rex.May of several; the document's example. -/
import Derived.Test.YtdkdgbiagjflgaaDoorRexL
namespace Go.Proofs.YtdkdgbiagjflgaaDoor
open Go.RowKit
set_option maxHeartbeats 1000000 in
theorem mayClosure_any {ok : Nat → Prop} (r : Rx) (v : Value) (w : World) (h : ReAt ok w v r) :
    Calls Tryd.prog 48 #[v] w fun e w' => e = .returned (.bool (!mayR r)) ∧ Below w.heap.size w w' := by
  have h' : ReAt (fun b => b < w.heap.size) w v r := h.imp fun b hb _ => hb
  have K := Lib.hid fun W (hb : Below w.heap.size w W) (hL : Left W (w.heap.size + 1) (2000 : Nat)) => nodesMay_all (ok := fun b => b < w.heap.size) (g := w.heap.size + 1) (fun b hb => by omega) r.size r (Nat.le_refl _) 2000 v W (Nat.le_refl _) hL (h'.below hb)
  obtain ⟨x0, x1, x2, x3, x4, bl, n', cp, rfl⟩ := cells_re h
  clear h h'
  have hm : mayR r = mayN r 2000 := rfl
  rw [hm]
  generalize mayN r 2000 = q at *
  go_enter Tryd.func48, Tryd.ntmps48
  go_wp2_with fail
  refine (K.out _ (((Below.refl _ w).alloc (Nat.le_refl _) _).alloc (by simp) _) (blk_at _ _ (by simp))).mono ?_
  rintro e w1 ⟨rfl, -, hb⟩
  have hbw : Below w.heap.size w w1 := (((Below.refl _ w).alloc (Nat.le_refl _) _).alloc (by simp) _).trans ((hb.mono (by simp; omega)).below (by omega))
  clear hb
  go_wp2
  go_ret
  exact ⟨rfl, hbw⟩
def idxInv2 (l : List Rx) (w : World) (y : Value) (wr : World) : Prop := ∃ i : Nat, i ≤ l.length ∧ y = .int .i64 i ∧ (l.take i).all mayR = true ∧ Below w.heap.size w wr
def IdxPost2 (q : Bool) (w : World) (e : Ending) (w' : World) : Prop := ∃ x : Int, decide (0 ≤ x) = !q ∧ e = .returned (.int .i64 x) ∧ Below w.heap.size w w'
set_option maxHeartbeats 4000000 in
theorem index_any {ok : Nat → Prop} (l : List Rx) (al : Option Addr) (cap : Nat) (w : World) (hl : l.length < 2199023255552) (hR : RowAt ok w al l) :
    Calls Tryd.prog 43 #[.slice al l.length cap, .func (.func 48) #[] #[]] w (IdxPost2 (l.all mayR) w) := by
  have HR := Lib.hid hR
  clear hR
  go_enter Tryd.func43, Tryd.ntmps43
  go_wp2
  go_loopw [8] (fun y wr => idxInv2 l w y wr) (fun y _ => l.length - (intOf y).toNat)
  case atStart => exact ⟨0, Nat.zero_le _, rfl, by simp, Below.refl _ _⟩
  case round =>
    obtain ⟨i, hi, rfl, hmay, hb⟩ := hrel
    have HY := Lib.hid hmay
    clear hmay
    by_cases hlt : i < l.length
    · obtain ⟨b, off, hab, hblt, hnode⟩ := HR.out.kid hlt
      subst hab
      have hkid := NodeAt.below hb _ hblt hnode
      have htk : (l.take (i + 1)).all mayR = ((l.take i).all mayR && mayR l[i]) := by
        rw [List.take_succ_eq_append_getElem hlt, List.all_append]; simp
      have hno : mayR l[i] = false → l.all mayR = false := fun h => by
        rw [List.all_eq_false]; exact ⟨l[i], List.getElem_mem hlt, by rw [h]; simp⟩
      clear hnode
      generalize l[i] = kid at *
      obtain ⟨k', ⟨ta, tb, tc, td⟩, ks'⟩ := kid
      obtain ⟨al', cap', ⟨c0, c1, c2, c3, c4, c5⟩, hre⟩ := hkid.read
      simp only at c0 c1 c2 c3 c4 c5
      have K := Lib.hid (mayClosure_any _ _ wr hre)
      generalize mayR (Rx.node k' ⟨ta, tb, tc, td⟩ ks') = q at *
      have T1 := Lib.hid htk
      have T2 := Lib.hid hno
      clear hkid hre htk hno
      have q1 : (i : Int) < (l.length : Int) := by omega
      go_wp2_with fail
      refine K.out.mono ?_
      rintro e w1 ⟨rfl, hb1⟩
      replace hb := hb.trans (hb1.mono hb.size)
      clear hb1 c0 c1 c2 c3 c4 c5
      cases q with
      | true =>
        go_wp2
        exact ⟨⟨i + 1, by omega, by go_num, by rw [T1.out, HY.out]; rfl, hb⟩, by simp [intOf]; omega⟩
      | false =>
        go_wp2
        go_ret
        exact ⟨i, by rw [T2.out trivial]; simp, rfl, hb⟩
    · have he : l.take i = l := List.take_of_length_le (by omega)
      rw [he] at HY
      go_wp2
      go_ret
      exact ⟨-1, by rw [HY.out]; rfl, rfl, hb⟩
theorem contains_any {ok : Nat → Prop} (l : List Rx) (al : Option Addr) (cap : Nat) (w : World) (hl : l.length < 2199023255552) (hR : RowAt ok w al l) :
    Calls Tryd.prog 28 #[.slice al l.length cap, .func (.func 48) #[] #[]] w fun e w' => e = .returned (.bool (!l.all mayR)) ∧ Below w.heap.size w w' := by
  have K := Lib.hid (index_any l al cap w hl hR)
  clear hR
  generalize l.all mayR = q at *
  go_enter Tryd.func28, Tryd.ntmps28
  go_wp2_with fail
  refine K.out.mono ?_
  rintro e w1 ⟨x, hx, rfl, hb⟩
  have HX := Lib.hid hx
  clear hx
  go_wp2
  go_ret
  exact ⟨by rw [← HX.out]; rfl, hb⟩
theorem mayX {ok : Nat → Prop} (l : List Rx) (al : Option Addr) (cap : Nat) (w : World) (hl : l.length < 2199023255552) (hR : RowAt ok w al l) :
    Calls Tryd.prog 40 #[.slice al l.length cap] w fun e w' => e = .returned (.bool (l.all mayR)) ∧ Below w.heap.size w w' := by
  have K := Lib.hid (contains_any l al cap w hl hR)
  clear hR
  generalize l.all mayR = q at *
  go_enter Tryd.func40, Tryd.ntmps40
  go_wp2_with fail
  refine K.out.mono ?_
  rintro e w1 ⟨rfl, hb⟩
  go_wp2
  go_ret
  exact ⟨by simp, hb⟩
theorem size_byteR (c : UInt8) : (byteR c).size = 1 := by unfold byteR ofR; split <;> simp [Rx.size, Rx.sizes]
theorem good_ofR (s : Ws) : goodR (ofR s) = true := by
  unfold ofR
  by_cases h : sameW s Ws.nil = true
  · rw [if_pos h]
    have : bareB Ws.nil = true := sameW_iff.2 rfl
    simp [goodR, goodRs, nodeGood, this]
  · rw [if_neg h]
    have : bareB s = false := by simpa [bareB] using h
    simp [goodR, goodRs, nodeGood, this]
theorem size_foldR (k o : Nat) : ∀ (l : List Rx), l ≠ [] → (foldR k o l).size + 1 = Rx.sizes l + l.length
  | [], h => absurd rfl h
  | [r], _ => by simp [foldR, Rx.sizes]
  | r :: r' :: rs, _ => by
    have ih := size_foldR k o (r' :: rs) (by simp)
    simp only [foldR, Rx.size, Rx.sizes, List.length_cons] at ih ⊢
    omega
theorem good_foldR : ∀ (l : List Rx), l ≠ [] → goodRs l = true → goodR (foldR 4 2 l) = true
  | [], h, _ => absurd rfl h
  | [r], _, hg => by simpa [foldR, goodRs] using hg
  | r :: r' :: rs, _, hg => by
    have hb : bareB Ws.nil = true := sameW_iff.2 rfl
    simp only [goodRs, Bool.and_eq_true] at hg
    have ih := good_foldR (r' :: rs) (by simp) (by simp [goodRs, hg])
    simp [foldR, goodR, goodRs, nodeGood, hb, hg, ih]
theorem sizes_wordL (s : ByteArray) : Rx.sizes (wordL s) = s.size := by
  have : ∀ l : List UInt8, Rx.sizes (l.map byteR) = l.length := fun l => by
    induction l with
    | nil => simp [Rx.sizes]
    | cons c t ih => simp [Rx.sizes, ih, size_byteR]; omega
  rw [wordL, this]; simp
theorem good_wordL (s : ByteArray) : goodRs (wordL s) = true := by
  have : ∀ l : List UInt8, goodRs (l.map byteR) = true := fun l => by
    induction l with
    | nil => simp [goodRs]
    | cons c t ih => simp [goodRs, ih, byteR, good_ofR]
  exact this _
theorem length_wordL (s : ByteArray) : (wordL s).length = s.size := by simp [wordL]
theorem word_size (s : ByteArray) (h : 0 < s.size) : (foldR 4 2 (wordL s)).size = 2 * s.size - 1 := by
  have hne : wordL s ≠ [] := fun e => by have := length_wordL s; rw [e] at this; simp at this; omega
  have := size_foldR 4 2 (wordL s) hne
  rw [sizes_wordL, length_wordL] at this
  omega
theorem word_good (s : ByteArray) (h : 0 < s.size) : goodR (foldR 4 2 (wordL s)) = true := by
  have hne : wordL s ≠ [] := fun e => by have := length_wordL s; rw [e] at this; simp at this; omega
  exact good_foldR _ hne (good_wordL s)
theorem row_new {w : World} {ok : Nat → Prop} {x0 x1 x2 x3 x4 x5 : Value} {r : Rx} (h : ReAt ok w (.agg #[x0, x1, x2, x3, x4, x5]) r) : RowAt (fun _ => True) (w.alloc (.cells #[x0, x1, x2, x3, x4, x5] 30)) (some ⟨w.heap.size, 0, none⟩) [r] :=
  row_one (blk_new w _) trivial ((h.below ((Below.refl _ w).alloc (Nat.le_refl _) _)).imp fun _ _ _ => trivial)
end Go.Proofs.YtdkdgbiagjflgaaDoor
