/- quilllaw04.OrderAgain, walked. -/
import Derived.Test.YthkkeamjigmfhaaOrdO
import Derived.Test.YthkkeamjigmfhaaOrdAw
import Derived.Test.YthkkeamjigmfhaaRexD
namespace Go.Proofs.Ythkkeamjigmfhaa
open Go.RowKit
theorem sameRs_refl (l : List Rx) : sameRs l l = true := sameRs_all rfl fun _ _ _ => (sameR_iff _ _).2 rfl
theorem onceR_length (l : List Rx) : (onceR l).length ≤ l.length := by
  have := onceFrom_length l []
  simpa [onceR] using this
set_option maxHeartbeats 2000000 in
theorem orderAgain_walk {ok : Nat → Prop} (al : Option Addr) (cap : Nat) (l : List Rx) (w : World) (hn : l.length < 2199023255552) (_hc : l.length ≤ cap) (hR : RowAt ok w al l) :
    Calls Try.prog 6 #[.slice al l.length cap] w fun e w' => e = .returned (.bool true) ∧ Below w.heap.size w w' := by
  have G := Lib.hid (greatAll_any l 200 al cap w hR hn (by decide))
  have HR := Lib.hid hR
  have KA := Lib.hid awake4_any
  clear hR
  go_enter Try.func6, Try.ntmps6
  go_wp2_with fail
  refine G.out.mono ?_
  rintro e w1 ⟨p, rfl, h20, -, hb⟩
  have H20 := Lib.hid h20
  clear h20 G
  cases p with
  | true =>
    go_wp2_with fail
    refine (KA.out _).mono ?_
    rintro e w2 ⟨rfl, hb2⟩
    have hB := hb.trans (hb2.mono hb.size)
    clear hb hb2
    go_wp2
    go_ret
    exact ⟨rfl, hB⟩
  | false =>
    have hl : l.length ≤ 20 := H20.out rfl
    have K1 := Lib.hid (sort_any l al cap w1 hl (HR.out.below hb))
    go_wp2_with fail
    refine K1.out.mono ?_
    rintro e w2 ⟨alS, rfl, hrS, hb2⟩
    replace hb := hb.trans (hb2.mono hb.size)
    have K2 := Lib.hid (once_any l al cap w2 hl (HR.out.below hb))
    obtain ⟨okS, HRS⟩ : ∃ okS : Nat → Prop, Hid (RowAt okS w2 alS (sortR l)) := ⟨_, Lib.hid hrS⟩
    obtain ⟨S, hS⟩ : ∃ S, S = sortR l := ⟨_, rfl⟩
    have hlS : S.length = l.length := by rw [hS]; exact sortR_length l
    have hSS : sortR S = S := by rw [hS]; exact sortR_again l
    rw [← hS] at HRS ⊢
    have lS : S.length ≤ 20 := by omega
    have HS := Lib.hid hS
    have HLS := Lib.hid hlS
    have HSS := Lib.hid hSS
    clear hrS hb2 K1 hS hlS hSS
    go_wp2_with fail
    refine K2.out.mono ?_
    rintro e w3 ⟨alO, rfl, hrO, hb3⟩
    replace hb := hb.trans (hb3.mono hb.size)
    have HRS3 := Lib.hid (HRS.out.below hb3)
    obtain ⟨okO, HRO⟩ : ∃ okO : Nat → Prop, Hid (RowAt okO w3 alO (onceR l)) := ⟨_, Lib.hid hrO⟩
    obtain ⟨O, hO⟩ : ∃ O, O = onceR l := ⟨_, rfl⟩
    have hlO : O.length ≤ 20 := by rw [hO]; exact Nat.le_trans (onceR_length l) hl
    have hOO : onceR O = O := by rw [hO]; exact onceR_again l
    have hSO : sortR O = onceR S := by rw [hO, HS.out]; exact sort_once l
    rw [← hO] at HRO ⊢
    have HSO := Lib.hid hSO
    have HOO := Lib.hid hOO
    clear hrO hb3 K2 HRS hO hSO hOO
    -- Sort of what is in order
    have K := sort_any S alS S.length w3 lS HRS3.out
    rw [HSS.out] at K
    have K1 := Lib.hid K
    clear K HSS HS
    go_wp2_with fail
    refine K1.out.mono ?_
    rintro e w4 ⟨alT, rfl, hrT, hb4⟩
    replace hb := hb.trans (hb4.mono hb.size)
    have HRS4 := Lib.hid (HRS3.out.below hb4)
    have HRO4 := Lib.hid (HRO.out.below hb4)
    have K := sameAll_any S S alT alS S.length S.length w4 (by omega) (by omega) hrT HRS4.out
    rw [sameRs_refl] at K
    have K2 := Lib.hid K
    clear K hrT hb4 K1 HRS3 HRO
    go_wp2_with fail
    refine K2.out.mono ?_
    rintro e w5 ⟨rfl, hb5⟩
    replace hb := hb.trans (hb5.mono hb.size)
    have HRS5 := Lib.hid (HRS4.out.below hb5)
    have HRO5 := Lib.hid (HRO4.out.below hb5)
    have K := once_any O alO O.length w5 hlO HRO5.out
    rw [HOO.out] at K
    have K1 := Lib.hid K
    clear K HOO hb5 K2 HRS4 HRO4
    go_wp2_with fail
    refine K1.out.mono ?_
    rintro e w6 ⟨alP, rfl, hrP, hb6⟩
    replace hb := hb.trans (hb6.mono hb.size)
    have HRS6 := Lib.hid (HRS5.out.below hb6)
    have HRO6 := Lib.hid (HRO5.out.below hb6)
    have K := sameAll_any O O alP alO O.length O.length w6 (by omega) (by omega) hrP HRO6.out
    rw [sameRs_refl] at K
    have K2 := Lib.hid K
    clear K hrP hb6 K1 HRS5 HRO5
    go_wp2_with fail
    refine K2.out.mono ?_
    rintro e w7 ⟨rfl, hb7⟩
    replace hb := hb.trans (hb7.mono hb.size)
    have HRS7 := Lib.hid (HRS6.out.below hb7)
    have HRO7 := Lib.hid (HRO6.out.below hb7)
    have K1 := Lib.hid (sort_any O alO O.length w7 hlO HRO7.out)
    clear hb7 K2 HRS6 HRO6
    go_wp2_with fail
    refine K1.out.mono ?_
    rintro e w8 ⟨alQ, rfl, hrQ, hb8⟩
    replace hb := hb.trans (hb8.mono hb.size)
    have HRS8 := Lib.hid (HRS7.out.below hb8)
    have HRQ := Lib.hid hrQ
    have K := once_any S alS S.length w8 lS HRS8.out
    rw [← HSO.out] at K
    have K2 := Lib.hid K
    have lq : (sortR O).length ≤ 20 := by rw [sortR_length]; exact hlO
    clear K hrQ hb8 K1 HRS7 HRO7 HSO
    generalize sortR O = Q at *
    go_wp2_with fail
    refine K2.out.mono ?_
    rintro e w9 ⟨alR, rfl, hrR, hb9⟩
    replace hb := hb.trans (hb9.mono hb.size)
    have K := sameAll_any Q Q alQ alR Q.length Q.length w9 (by omega) (by omega) (HRQ.out.below hb9) hrR
    rw [sameRs_refl] at K
    have K1 := Lib.hid K
    clear K hrR hb9 K2 HRS8 HRQ
    go_wp2_with fail
    refine K1.out.mono ?_
    rintro e w10 ⟨rfl, hb10⟩
    replace hb := hb.trans (hb10.mono hb.size)
    have e1 : ((S.length : Int) == (l.length : Int)) = true := by rw [HLS.out]; simp
    clear hb10 K1
    go_wp2_with fail
    refine (KA.out _).mono ?_
    rintro e w11 ⟨rfl, hb11⟩
    have hB := hb.trans (hb11.mono hb.size)
    clear hb hb11
    go_wp2
    go_ret
    exact ⟨rfl, hB⟩
end Go.Proofs.Ythkkeamjigmfhaa
