/- quilllaw03.RexMays, walked. -/
import Derived.Test.YtfbhmljajoaniaaRexU
import Derived.Test.YtfbhmljajoaniaaRexT
namespace Go.Proofs.Ytfbhmljajoaniaa
open Go.RowKit
def maysInv (l : List Rx) (w : World) (v x y : Value) (wr : World) : Prop := ∃ (i n : Nat) (q : Bool), i ≤ l.length ∧ y = .int .i64 i ∧ q = (l.take i).all mayR ∧ n = Rx.sizes (l.take i) ∧ v = .bool q ∧ x = .int .i64 n ∧ Below w.heap.size w wr
set_option maxHeartbeats 4000000 in
theorem rexMays_walk {ok : Nat → Prop} (al : Option Addr) (cap : Nat) (l : List Rx) (w : World) (hl : l.length < 2199023255552) (hR : RowAt ok w al l) (hsz : Rx.sizes l ≤ 1048576) :
    Calls Try.prog 3 #[.slice al l.length cap] w fun e w' => e = .returned (.bool true) ∧ Below w.heap.size w w' := by
  have KG := Lib.hid (greatAll_any l 200 al cap w hR hl (by decide))
  have KA := Lib.hid awake_any
  have KM := Lib.hid fun W (hb : Below w.heap.size w W) => mayX l al cap W hl (hR.below hb)
  have KS := Lib.hid fun W (hb : Below w.heap.size w W) => sizeX l al cap W hl (hR.below hb)
  rw [IntWalk.wrap64_in _ (by omega)] at KS
  have HR := Lib.hid hR
  clear hR
  go_enter Try.func3, Try.ntmps3
  go_wp2_with fail
  refine KG.out.mono ?_
  rintro e w1 ⟨g, rfl, -, hg, hb1⟩
  have HGE := Lib.hid (hg (by omega))
  clear hg
  cases g with
  | true =>
    go_wp2_with fail
    refine (KA.out _).mono ?_
    rintro e w2 ⟨rfl, hb2⟩
    go_wp2
    go_ret
    exact ⟨rfl, hb1.trans (hb2.mono hb1.size)⟩
  | false =>
    have hsmall : ∀ i (h : i < l.length), l[i].size ≤ 200 := by
      intro i h
      have h1 := HGE.out.symm
      simp only [greatAllB, Bool.or_eq_false_iff, List.any_eq_false] at h1
      have := h1.2 l[i] (List.getElem_mem h)
      simp [greatB] at this; omega
    have HSM := Lib.hid hsmall
    clear hsmall
    go_wp2
    go_loopw [3, 4, 5] (fun v x y wr => maysInv l w v x y wr) (fun _ _ y _ => l.length - (intOf y).toNat)
    case atStart => exact ⟨0, 0, true, Nat.zero_le _, rfl, by simp, by simp [Rx.sizes], rfl, rfl, hb1⟩
    case round =>
      obtain ⟨i, n, q, hi, rfl, hq, hn, rfl, rfl, hb⟩ := hrel
      have HQ := Lib.hid hq
      have HN := Lib.hid hn
      have hnb : n ≤ 1048576 := by rw [hn]; exact Nat.le_trans (sizes_take_le l i) hsz
      clear hq hn
      by_cases hlt : i < l.length
      · obtain ⟨b, off, hab, hblt, hnode⟩ := HR.out.kid hlt
        subst hab
        have hsm := HSM.out i hlt
        have htk : (l.take (i + 1)).all mayR = ((l.take i).all mayR && mayR l[i]) := by
          rw [List.take_succ_eq_append_getElem hlt, List.all_append]; simp
        have hst := sizes_take l i hlt
        have hstl := sizes_take_le l (i + 1)
        have hal := allR_length l[i]
        generalize l[i] = kid at *
        obtain ⟨k', ⟨ta, tb, tc, td⟩, ks'⟩ := kid
        obtain ⟨al', cap', ⟨c0w, c1w, c2w, c3w, c4w, c5w⟩, hre⟩ := hnode.read
        simp only at c0w c1w c2w c3w c4w c5w
        have hc : Six6 w b (off + i * 6) (.int .u8 k') (.int .u64 ta) (.int .u64 tb) (.int .u64 tc) (.int .u64 td) (.slice al' ks'.length cap') := ⟨c0w, c1w, c2w, c3w, c4w, c5w⟩
        have hre' : ReAt (Lo w.heap.size) w (.agg #[.int .u8 k', .int .u64 ta, .int .u64 tb, .int .u64 tc, .int .u64 td, .slice al' ks'.length cap']) (Rx.node k' ⟨ta, tb, tc, td⟩ ks') := hre.imp fun b hb _ => hb
        have K1 := Lib.hid fun W (h : Below w.heap.size w W) => refMay_any _ _ W (by omega) (hre.below h)
        have K2 := Lib.hid fun W (h : Below w.heap.size w W) => allX w.heap.size _ _ W (by omega) h.size (hre'.below h)
        have HC := Lib.hid hc
        have T1 := Lib.hid htk
        have T2 := Lib.hid hst
        have T3 := Lib.hid hal
        have T4 := Lib.hid hstl
        clear c0w c1w c2w c3w c4w c5w hc hre hre' htk hst hal hnode hstl
        generalize mayR (Rx.node k' ⟨ta, tb, tc, td⟩ ks') = p at *
        generalize allR (Rx.node k' ⟨ta, tb, tc, td⟩ ks') = L at *
        generalize (Rx.node k' ⟨ta, tb, tc, td⟩ ks').size = z at *
        have q1 : (i : Int) < (l.length : Int) := by omega
        obtain ⟨c0, c1, c2, c3, c4, c5⟩ := HC.out.go hblt hb
        cases q with
        | true =>
          go_wp2_with fail
          refine (K1.out _ hb).mono ?_
          rintro e w2 ⟨rfl, hb2⟩
          replace hb := hb.trans (hb2.mono hb.size)
          clear c0 c1 c2 c3 c4 c5 hb2
          obtain ⟨c0, c1, c2, c3, c4, c5⟩ := HC.out.go hblt hb
          go_wp2_with fail
          refine (K2.out _ hb).mono ?_
          rintro e w3 ⟨g, off2, cap2, rfl, -, -, -, -, hb3⟩
          replace hb := hb.trans (hb3.mono hb.size)
          have hL : L.length ≤ 200 := by rw [T3.out]; exact hsm
          clear c0 c1 c2 c3 c4 c5 hb3
          go_wp2
          refine ⟨⟨i + 1, n + L.length, p, by omega, by go_num, by rw [T1.out, ← HQ.out]; rfl, by rw [T2.out, T3.out, HN.out], rfl, by go_num, hb⟩, by simp [intOf]; omega⟩
        | false =>
          go_wp2_with fail
          refine (K2.out _ hb).mono ?_
          rintro e w3 ⟨g, off2, cap2, rfl, -, -, -, -, hb3⟩
          replace hb := hb.trans (hb3.mono hb.size)
          have hL : L.length ≤ 200 := by rw [T3.out]; exact hsm
          clear c0 c1 c2 c3 c4 c5 hb3
          go_wp2
          refine ⟨⟨i + 1, n + L.length, false, by omega, by go_num, by rw [T1.out, ← HQ.out]; rfl, by rw [T2.out, T3.out, HN.out], rfl, by go_num, hb⟩, by simp [intOf]; omega⟩
      · have he : l.take i = l := List.take_of_length_le (by omega)
        rw [he] at HQ HN
        rw [← HQ.out] at KM
        rw [← HN.out] at KS
        have hqq : (q == q) = true := by simp
        have hnn : ((n : Int) == (n : Int)) = true := by simp
        go_wp2_with fail
        refine (KM.out _ hb).mono ?_
        rintro e w2 ⟨rfl, hb2⟩
        replace hb := hb.trans (hb2.mono hb.size)
        clear hb2
        go_wp2_with fail
        refine (KS.out _ hb).mono ?_
        rintro e w3 ⟨rfl, hb3⟩
        replace hb := hb.trans (hb3.mono hb.size)
        clear hb3
        go_wp2_with fail
        refine (KA.out _).mono ?_
        rintro e w4 ⟨rfl, hb4⟩
        replace hb := hb.trans (hb4.mono hb.size)
        clear hb4
        go_wp2
        go_ret
        exact ⟨rfl, hb⟩
end Go.Proofs.Ytfbhmljajoaniaa
