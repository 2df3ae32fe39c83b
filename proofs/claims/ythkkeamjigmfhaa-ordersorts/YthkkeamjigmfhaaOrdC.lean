/- quillref04's Once. -/
import Derived.Test.YthkkeamjigmfhaaOrdB
import Derived.Test.YthkkeamjigmfhaaRowV
namespace Go.Proofs.Ythkkeamjigmfhaa
open Go.RowKit
/-- A row of expressions comes back: a slice of the call's own, whose nodes' rows lie where those of the arguments lay. -/
def RowPost (B : Nat) (l : List Rx) (w : World) (e : Ending) (w' : World) : Prop := ∃ al cap, e = .returned (.slice al l.length cap) ∧ l.length ≤ cap ∧ RowAt (fun b => Lo B b ∨ w.heap.size ≤ b) w' al l ∧ Below w.heap.size w w'
def onceTake (l : List Rx) (i : Nat) : List Rx := onceR (l.take i)
theorem onceFrom_append : ∀ (l m out : List Rx), onceFrom out (l ++ m) = onceFrom (onceFrom out l) m
  | [], m, out => by simp [onceFrom]
  | r :: l, m, out => by
    simp only [List.cons_append, onceFrom]
    split
    · exact onceFrom_append l m out
    · exact onceFrom_append l m _
theorem onceTake_step (l : List Rx) (i : Nat) (h : i < l.length) : onceTake l (i + 1) = if (onceTake l i).any (fun o => sameR o l[i]) = true then onceTake l i else onceTake l i ++ [l[i]] := by
  unfold onceTake onceR
  rw [List.take_succ_eq_append_getElem h, onceFrom_append]
  simp only [onceFrom]
theorem onceFrom_length : ∀ (l out : List Rx), (onceFrom out l).length ≤ out.length + l.length
  | [], out => by simp [onceFrom]
  | r :: l, out => by
    unfold onceFrom
    split
    · have := onceFrom_length l out
      simp; omega
    · have := onceFrom_length l (out ++ [r])
      simp at this ⊢; omega
theorem onceTake_length (l : List Rx) (i : Nat) : (onceTake l i).length ≤ i := by
  have := onceFrom_length (l.take i) []
  simp at this
  unfold onceTake onceR; omega
def onceInv (B : Nat) (l : List Rx) (w : World) (v y : Value) (wr : World) : Prop := ∃ (i n : Nat) (O : List Rx) (xs : List Value), i ≤ l.length ∧ y = .int .i64 i ∧ O = onceTake l i ∧ n = O.length ∧ Below w.heap.size w wr ∧ wr.ownsRow w.heap.size 27 6 v n xs ∧ RowVals (Lo B) wr xs O
set_option maxHeartbeats 4000000 in
theorem refOnce_any (B : Nat) (l : List Rx) (al : Option Addr) (cap : Nat) (w : World) (hl : l.length ≤ 1000000) (hB : B ≤ w.heap.size) (hR : RowAt (Lo B) w al l) :
    Calls Try.prog 18 #[.slice al l.length cap] w (RowPost B (onceR l) w) := by
  obtain ⟨i0, hi, hz0, hz1, hz2⟩ := info_parts infoR
  have hz2' := Lib.hid hz2
  have HR := Lib.hid hR
  clear hz2 hR
  go_enter Try.func18, Try.ntmps18
  go_wp2
  go_loopw [3, 8] (fun v y wr => onceInv B l w v y wr) (fun _ y _ => l.length - (intOf y).toNat)
  case atStart =>
    refine ⟨0, 0, [], [], Nat.zero_le _, rfl, by simp [onceTake, onceR, onceFrom], rfl, (Below.refl _ w).alloc (Nat.le_refl _) _, ⟨rfl, .inr ⟨w.heap.size, 0, #[], rfl, Nat.le_refl _, blk_new w _, Nat.le_refl _, Nat.zero_le _, rfl, rfl⟩⟩, RowVals.nil _ _⟩
  case round =>
    obtain ⟨i, n, O, xs, hii, rfl, hO, hn, hb, hown, hvals⟩ := hrel
    have hOl : n ≤ i := by rw [hn, hO]; exact onceTake_length l i
    have HO := Lib.hid hown
    have HV := Lib.hid hvals
    have HEQ := Lib.hid hO
    have HNE := Lib.hid hn
    have hsz := hb.size
    clear hown hvals hO
    by_cases hlt : i < l.length
    · obtain ⟨b, off, hab, hblt, hnode⟩ := HR.out.kid hlt
      subst hab
      have hst := onceTake_step l i hlt
      rw [← HEQ.out] at hst
      generalize l[i] = kid at *
      obtain ⟨k', ⟨ta, tb, tc, td⟩, ks'⟩ := kid
      obtain ⟨al', cap', ⟨c0w, c1w, c2w, c3w, c4w, c5w⟩, hre⟩ := hnode.read
      simp only at c0w c1w c2w c3w c4w c5w
      have hcells : ∀ W, Below w.heap.size w W → (W.cell? ⟨b, off + i * 6, none⟩ = some (.int .u8 k') ∧ W.cell? ⟨b, off + i * 6 + 1, none⟩ = some (.int .u64 ta) ∧ W.cell? ⟨b, off + i * 6 + 2, none⟩ = some (.int .u64 tb) ∧ W.cell? ⟨b, off + i * 6 + 3, none⟩ = some (.int .u64 tc) ∧ W.cell? ⟨b, off + i * 6 + 4, none⟩ = some (.int .u64 td) ∧ W.cell? ⟨b, off + i * 6 + 5, none⟩ = some (.slice al' ks'.length cap')) := fun W hW => by
        have e := fun o => hW.cell (p := ⟨b, o, none⟩) hblt
        exact ⟨by rw [e]; exact c0w, by rw [e]; exact c1w, by rw [e]; exact c2w, by rw [e]; exact c3w, by rw [e]; exact c4w, by rw [e]; exact c5w⟩
      have HCE := Lib.hid hcells
      have HRE := Lib.hid hre
      obtain ⟨alO, capO, hv, hcapO, hrowO⟩ := row_of_own (by rw [← hn]; exact HO.out) HV.out
      subst hv
      have K := Lib.hid (in_any O _ alO capO _ wr (by omega) hrowO (HRE.out.below hb))
      have HST := Lib.hid hst
      clear c0w c1w c2w c3w c4w c5w hcells hre hnode hst hrowO hcapO
      generalize Rx.node k' ⟨ta, tb, tc, td⟩ ks' = r at *
      generalize O.any (fun x => sameR x r) = q at *
      rw [← hn] at K HO ⊢
      clear hn
      obtain ⟨c0, c1, c2, c3, c4, c5⟩ := HCE.out _ hb
      have q1 : (i : Int) < (l.length : Int) := by omega
      go_wp2_with fail
      refine K.out.mono ?_
      rintro e w1 ⟨rfl, hb1⟩
      have HO1 := Lib.hid (ownR_below HO.out hb1)
      have HV1 := Lib.hid (HV.out.go (kept_lo (Nat.le_trans hB hsz) (hb1.mono (Nat.le_trans hB hsz))))
      replace hb := hb.trans (hb1.mono hsz)
      replace hsz := hb.size
      clear hb1 c0 c1 c2 c3 c4 c5
      cases q with
      | true =>
        go_wp2
        exact ⟨⟨i + 1, n, O, xs, by omega, by go_num, by rw [HST.out]; rfl, HNE.out, hb, HO1.out, HV1.out⟩, by simp [intOf]; omega⟩
      | false =>
        obtain ⟨c0, c1, c2, c3, c4, c5⟩ := HCE.out _ hb
        have HRW := Lib.hid (HRE.out.below hb)
        go_wp2_with (at_builtin; refine wpList_append_own _ rfl _ _ 25 rfl w.heap.size 27 i0 _ 6 64 Try.underlying25 hi hz0 hz1 hz2'.out rfl (by decide) _ _ _ rfl (HO1.out.alloc _) ⟨w1.heap.size, 0, none⟩ 1 1 [.int .u8 k', .int .u64 ta, .int .u64 tb, .int .u64 tc, .int .u64 td, .slice al' ks'.length cap'] rfl rfl ?c1 ?c2 ?c3 ?c4 ?c5 ?_)
        case c1 => exact six_cells w1 _ _ _ _ _ _
        case c2 => intro u hu; simp at hu; rcases hu with rfl | rfl | rfl | rfl | rfl | rfl <;> rfl
        case c3 => unfold maxLen; omega
        case c4 => omega
        case c5 => simp; omega
        intro v' w2 hown' hgrow _
        have hge := ownR_ge HO1.out
        have hb2 : Below w.heap.size w w2 := (hb.alloc hsz _).grown hgrow (by simp; omega) hge
        have hb3 : Below B w1 w2 := ((Below.refl B w1).alloc (by omega) _).grown hgrow (by simp; omega) (fun g hg => by have := hge g hg; omega)
        have hvals : RowVals (Lo B) w2 (xs ++ [.int .u8 k', .int .u64 ta, .int .u64 tb, .int .u64 tc, .int .u64 td, .slice al' ks'.length cap']) (O ++ [r]) :=
          (HV1.out.go (kept_lo (by omega) hb3)).append ((RowVals.one HRW.out).go (kept_lo (by omega) hb3))
        have HOW := Lib.hid hown'
        have HVL := Lib.hid hvals
        clear hgrow hown' hvals hge hb3 c0 c1 c2 c3 c4 c5
        go_wp2
        exact ⟨⟨i + 1, n + 1, O ++ [r], _, by omega, by go_num, by rw [HST.out]; rfl, by rw [List.length_append, ← HNE.out]; rfl, hb2, HOW.out, HVL.out⟩, by simp [intOf]; omega⟩
    · have he : onceTake l i = onceR l := by unfold onceTake; rw [List.take_of_length_le (by omega)]
      rw [HEQ.out, he] at HV HNE
      obtain ⟨alO, capO, hv, hcapO, hrowO⟩ := row_of_own (by rw [← HNE.out]; exact HO.out) HV.out
      subst hv
      have HRO := Lib.hid hrowO
      clear hrowO hn
      go_wp2
      go_ret
      exact ⟨alO, capO, rfl, hcapO, HRO.out, hb⟩
end Go.Proofs.Ythkkeamjigmfhaa
