/- quilllaw04.OrderSorts, walked. -/
import Derived.Test.YthkkeamjigmfhaaOrdO
import Derived.Test.YthkkeamjigmfhaaOrdN
import Derived.Test.YthkkeamjigmfhaaOrdE
import Derived.Test.YthkkeamjigmfhaaOrdH
import Derived.Test.YthkkeamjigmfhaaOrdAw
import Derived.Test.YthkkeamjigmfhaaRexD
namespace Go.Proofs.Ythkkeamjigmfhaa
open Go.RowKit
theorem sameRs_refl' (l : List Rx) : sameRs l l = true := sameRs_all rfl fun _ _ _ => (sameR_iff _ _).2 rfl
theorem onceR_length' (l : List Rx) : (onceR l).length ≤ l.length := by
  have := onceFrom_length l []
  simpa [onceR] using this
def lawInv (l : List Rx) (w : World) (y : Value) (wr : World) : Prop := ∃ k : Nat, k ≤ l.length ∧ y = .int .i64 k ∧ Below w.heap.size w wr
set_option maxHeartbeats 4000000 in
theorem orderSorts_walk {ok : Nat → Prop} (al : Option Addr) (cap : Nat) (l : List Rx) (w : World) (hn : l.length < 2199023255552) (_hc : l.length ≤ cap) (hR0 : RowAt ok w al l) :
    Calls Try.prog 5 #[.slice al l.length cap] w fun e w' => e = .returned (.bool true) ∧ Below w.heap.size w w' := by
  have hR : RowAt (Lo w.heap.size) w al l := hR0.imp fun b hb _ => hb
  have G := Lib.hid (greatAll_any l 200 al cap w hR hn (by decide))
  have HR := Lib.hid hR
  have KA := Lib.hid awake4_any
  clear hR hR0
  go_enter Try.func5, Try.ntmps5
  go_wp2_with fail
  refine G.out.mono ?_
  rintro e w1 ⟨p, rfl, h20, -, hb⟩
  have H20 := Lib.hid h20
  clear h20 G
  cases p with
  | true =>
    go_wp2_with fail
    refine (KA.out _).mono ?_
    rintro e w2 ⟨rfl, hb2⟩
    have hB := hb.trans (hb2.mono hb.size)
    clear hb hb2
    go_wp2
    go_ret
    exact ⟨rfl, hB⟩
  | false =>
    have hl : l.length ≤ 20 := H20.out rfl
    have KS := Lib.hid fun W (h : Below w.heap.size w W) => refSort_any w.heap.size l al cap W (by omega) h.size (HR.out.below h)
    have KO := Lib.hid fun W (h : Below w.heap.size w W) => refOnce_any w.heap.size l al cap W (by omega) h.size (HR.out.below h)
    have hsz := hb.size
    have ba : Below w.heap.size w (w1.alloc (.cells #[] 27)) := hb.alloc hb.size _
    have hown0 : (w1.alloc (.cells #[] 27)).ownsRow w1.heap.size 27 6 (.slice (some ⟨w1.heap.size, 0, none⟩) 0 0) 0 [] := ⟨rfl, .inr ⟨w1.heap.size, 0, #[], rfl, Nat.le_refl _, blk_new w1 _, Nat.le_refl _, Nat.zero_le _, rfl, rfl⟩⟩
    have HOWN := Lib.hid hown0
    have HRA := Lib.hid (HR.out.below ba)
    clear hown0
    go_wp2_with (at_builtin; refine wpList_append_row rfl _ _ rfl w1.heap.size _ rfl HOWN.out al l cap rfl (by omega) HRA.out (by simp) ?_)
    intro v2 w2 ys hown hvals hgrow
    have hge := ownR_ge HOWN.out
    have b2 : Below w.heap.size w w2 := ba.grown hgrow (by simp; omega) (fun g hg => by have := hge g hg; omega)
    have b2' : Below w.heap.size (w1.alloc (.cells #[] 27)) w2 := (Below.refl _ _).grown hgrow (by simp; omega) (fun g hg => by have := hge g hg; omega)
    obtain ⟨alW, capW, hv, hcapW, hrowW⟩ := row_of_own hown (hvals.go (kept_lo (by simp; omega) b2'))
    subst hv
    obtain ⟨okW, HW⟩ : ∃ okW : Nat → Prop, Hid (RowAt okW w2 alW l) := ⟨_, Lib.hid hrowW⟩
    clear hown hvals hgrow hge b2' hrowW ba HOWN HRA hb hcapW
    have K1 := Lib.hid (sort_any l alW capW w2 hl HW.out)
    go_wp2_with fail
    refine K1.out.mono ?_
    rintro e w3 ⟨alS, rfl, hrS, hb3⟩
    replace b2 := b2.trans (hb3.mono b2.size)
    have HW3 := Lib.hid (HW.out.below hb3)
    obtain ⟨okS, HS3⟩ : ∃ okS : Nat → Prop, Hid (RowAt okS w3 alS (sortR l)) := ⟨_, Lib.hid hrS⟩
    have lS : (sortR l).length ≤ 20 := by rw [sortR_length]; exact hl
    clear hrS hb3 K1 HW
    generalize sortR l = S at *
    have K1 := Lib.hid (once_any l alW capW w3 hl HW3.out)
    go_wp2_with fail
    refine K1.out.mono ?_
    rintro e w4 ⟨alO, rfl, hrO, hb4⟩
    replace b2 := b2.trans (hb4.mono b2.size)
    have HW4 := Lib.hid (HW3.out.below hb4)
    have HS4 := Lib.hid (HS3.out.below hb4)
    obtain ⟨okO, HO4⟩ : ∃ okO : Nat → Prop, Hid (RowAt okO w4 alO (onceR l)) := ⟨_, Lib.hid hrO⟩
    have lO : (onceR l).length ≤ 20 := Nat.le_trans (onceR_length' l) hl
    clear hrO hb4 K1 HW3 HS3
    generalize onceR l = O at *
    have K1 := Lib.hid (first_any l alW capW w4 hn HW4.out)
    go_wp2_with fail
    refine K1.out.mono ?_
    rintro e w5 ⟨f, rfl, hf, hF, hb5⟩
    replace b2 := b2.trans (hb5.mono b2.size)
    have HW5 := Lib.hid (HW4.out.below hb5)
    have HS5 := Lib.hid (HS4.out.below hb5)
    have HO5 := Lib.hid (HO4.out.below hb5)
    have HF := Lib.hid hF
    have HFL := Lib.hid hf
    clear hb5 K1 HW4 HS4 HO4 hF hf
    generalize hd : decide (0 < l.length) = bd
    have HBD := Lib.hid hd
    clear hd
    -- the document's Sort
    go_wp2_with fail
    refine (KS.out _ b2).mono ?_
    rintro e w6 ⟨alT, capT, rfl, -, hrT, hb6⟩
    replace b2 := b2.trans (hb6.mono b2.size)
    have HW6 := Lib.hid (HW5.out.below hb6)
    have HO6 := Lib.hid (HO5.out.below hb6)
    have K := sameAll_any S S alS alT S.length capT w6 (by omega) (by omega) (HS5.out.below hb6) hrT
    rw [sameRs_refl'] at K
    have K1 := Lib.hid K
    clear K hrT hb6 HW5 HO5 HS5 KS
    go_wp2_with fail
    refine K1.out.mono ?_
    rintro e w7 ⟨rfl, hb7⟩
    replace b2 := b2.trans (hb7.mono b2.size)
    have HW7 := Lib.hid (HW6.out.below hb7)
    have HO7 := Lib.hid (HO6.out.below hb7)
    clear hb7 HW6 HO6 K1
    -- the document's Once
    go_wp2_with fail
    refine (KO.out _ b2).mono ?_
    rintro e w8 ⟨alT2, capT2, rfl, -, hrT, hb8⟩
    replace b2 := b2.trans (hb8.mono b2.size)
    have HW8 := Lib.hid (HW7.out.below hb8)
    have K := sameAll_any O O alO alT2 O.length capT2 w8 (by omega) (by omega) (HO7.out.below hb8) hrT
    rw [sameRs_refl'] at K
    have K1 := Lib.hid K
    clear K hrT hb8 HW7 HO7 KO
    go_wp2_with fail
    refine K1.out.mono ?_
    rintro e w9 ⟨rfl, hb9⟩
    replace b2 := b2.trans (hb9.mono b2.size)
    have K := sameAll_any l l alW al capW cap w9 hn hn (HW8.out.below hb9) (HR.out.below b2)
    rw [sameRs_refl'] at K
    have K2 := Lib.hid K
    clear K hb9 HW8 K1
    go_wp2_with fail
    refine K2.out.mono ?_
    rintro e w10 ⟨rfl, hb10⟩
    replace b2 := b2.trans (hb10.mono b2.size)
    clear hb10 K2
    by_cases h0 : 0 < l.length
    · have hbd : bd = true := by rw [← HBD.out]; exact decide_eq_true h0
      subst hbd
      have e1 : decide ((0 : Int) < (l.length : Int)) = true := by simp; omega
      have e2 : (0 : Int) < (l.length : Int) := by omega
      have hfl : f < l.length := by have := HFL.out; omega
      have e3 : (f : Int) < (l.length : Int) := by omega
      have e4 : ¬ (l.length : Int) ≤ (f : Int) := by omega
      have e5 : decide ((f : Int) < 0) = false := decide_eq_false (by omega)
      have e6 : decide (l.length ≤ f) = false := decide_eq_false (by omega)
      go_wp2
      go_loopw [8] (fun y wr => lawInv l w y wr) (fun y _ => l.length - (intOf y).toNat)
      case atStart => exact ⟨0, Nat.zero_le _, rfl, b2⟩
      case round =>
        obtain ⟨k, hk, rfl, hb⟩ := hrel
        clear b2
        by_cases hlt : k < l.length
        · obtain ⟨b, off, hab, hblt, hnode0⟩ := HR.out.kid hlt
          obtain ⟨b', off', hab', hblt', hnode0'⟩ := HR.out.kid hfl
          subst hab
          simp at hab'
          obtain ⟨rfl, rfl⟩ := hab'
          have hnode := NodeAt.below hb _ hblt hnode0
          have hnode' := NodeAt.below hb _ hblt hnode0'
          have hq := HF.out k hlt
          rw [atR_get hlt, atR_get hfl] at hq
          have HQ := Lib.hid hq
          clear hnode0 hnode0' hq
          generalize l[k] = kid at *
          generalize l[f] = kid' at *
          obtain ⟨kk, ⟨ta, tb, tc, td⟩, kks⟩ := kid
          obtain ⟨kk', ⟨ta', tb', tc', td'⟩, kks'⟩ := kid'
          obtain ⟨bl, bcap, ⟨c0, c1, c2, c3, c4, c5⟩, hre⟩ := hnode.read
          obtain ⟨bl', bcap', ⟨g0, g1, g2, g3, g4, g5⟩, hre'⟩ := hnode'.read
          simp only at c0 c1 c2 c3 c4 c5 g0 g1 g2 g3 g4 g5
          have KK := Lib.hid (refTwoX _ _ _ _ wr.drew (hre.below (Below.refl _ _).drew) (hre'.below (Below.refl _ _).drew))
          generalize ordR (Rx.node kk ⟨ta, tb, tc, td⟩ kks) (Rx.node kk' ⟨ta', tb', tc', td'⟩ kks') = q at *
          clear hnode hnode' hre hre'
          have q1 : (k : Int) < (l.length : Int) := by omega
          go_wp2_with fail
          go_still_tail 8, (by kernel_rfl)
          change wpList _ _ _ _ _ wr.drew
          go_wp2_with fail
          refine KK.out.mono ?_
          rintro _ w11 ⟨rfl, hb1⟩
          replace hb : Below w.heap.size w w11 := hb.drew.trans (hb1.mono hb.drew.size)
          clear c0 c1 c2 c3 c4 c5 g0 g1 g2 g3 g4 g5 hb1 KK
          have d9 : decide (q < 0) = false := by have := HQ.out.1; simp; omega
          have d8 : ¬ q < 0 := by have := HQ.out.1; omega
          by_cases hq : q = 0
          · have d7 : ¬ (k : Int) < (f : Int) := by have := HQ.out.2 hq; omega
            subst hq
            go_wp2
            exact ⟨⟨k + 1, by omega, by go_num, hb⟩, by simp [intOf]; omega⟩
          · have d7 : (q == 0) = false := by simpa using hq
            go_wp2
            exact ⟨⟨k + 1, by omega, by go_num, hb⟩, by simp [intOf]; omega⟩
        · have q1 : ¬ (k : Int) < (l.length : Int) := by omega
          go_wp2_with fail
          refine (KA.out _).mono ?_
          rintro e w12 ⟨rfl, hb2⟩
          have hB := hb.trans (hb2.mono hb.size)
          clear hb hb2
          go_wp2
          go_ret
          exact ⟨rfl, hB⟩
    · have hbd : bd = false := by rw [← HBD.out]; exact decide_eq_false h0
      subst hbd
      have hf0 : f = 0 := by have := HFL.out; omega
      subst hf0
      have e1 : decide ((0 : Int) < (l.length : Int)) = false := decide_eq_false (by omega)
      have e2 : ¬ (0 : Int) < (l.length : Int) := by omega
      rw [show ((0 : Nat) : Int) = 0 from rfl]
      go_wp2_with fail
      refine (KA.out _).mono ?_
      rintro e w12 ⟨rfl, hb2⟩
      have hB := b2.trans (hb2.mono b2.size)
      clear b2 hb2
      go_wp2
      go_ret
      exact ⟨rfl, hB⟩
end Go.Proofs.Ythkkeamjigmfhaa
