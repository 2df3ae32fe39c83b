/- quilllaw03.RexMost, walked. -/
import Derived.Test.YtfbhmljajoaniaaRexN
import Derived.Test.YtfbhmljajoaniaaOwnT
namespace Go.Proofs.Ytfbhmljajoaniaa
open Go.RowKit
theorem u8Info : (Try.prog.info? 5).map (fun i => (i.zero, i.size, i.bytes)) = some (some (.int .u8 0), 1, 1) := by kernel_rfl
def asL (k : Nat) : List UInt8 := List.replicate k 97
theorem asL_succ (k : Nat) : Lib.byteCells (asL (k + 1)) = Lib.byteCells (asL k) ++ [.int .u8 97] := by
  unfold asL
  rw [List.replicate_succ', Lib.byteCells_append]; rfl
def mostInv (n : Nat) (w : World) (v y : Value) (wr : World) : Prop := ∃ k : Nat, k ≤ n ∧ y = .int .i64 k ∧ Below w.heap.size w wr ∧ wr.ownsRow w.heap.size 5 1 v k (Lib.byteCells (asL k))
/-- A block that holds an expression, and all that was there. -/
def Held (w W : World) (g : Nat) (x0 x1 x2 x3 x4 x5 : Value) (r : Rx) : Prop := Below w.heap.size w W ∧ W.heap[g]? = some (.cells #[x0, x1, x2, x3, x4, x5] 30) ∧ ReAt (fun _ => True) W (.agg #[x0, x1, x2, x3, x4, x5]) r
theorem Held.go {w W W' : World} {g : Nat} {x0 x1 x2 x3 x4 x5 : Value} {r : Rx} (h : Held w W g x0 x1 x2 x3 x4 x5 r) (hb : Below W.heap.size W W') : Held w W' g x0 x1 x2 x3 x4 x5 r := by
  obtain ⟨h1, h2, h3⟩ := h
  exact ⟨h1.trans (hb.mono h1.size), (hb.block _ (Array.getElem?_eq_some_iff.1 h2).1).trans h2, h3.below hb⟩
theorem Held.new {w W : World} {x0 x1 x2 x3 x4 x5 : Value} {r : Rx} {ok : Nat → Prop} (h : ReAt ok W (.agg #[x0, x1, x2, x3, x4, x5]) r) (hb : Below w.heap.size w W) : Held w (W.alloc (.cells #[x0, x1, x2, x3, x4, x5] 30)) W.heap.size x0 x1 x2 x3 x4 x5 r :=
  ⟨hb.alloc hb.size _, blk_new W _, (h.below ((Below.refl _ W).alloc (Nat.le_refl _) _)).imp fun _ _ _ => trivial⟩
theorem row_at {w : World} {g : Nat} {ok : Nat → Prop} {x0 x1 x2 x3 x4 x5 : Value} {r : Rx} (hg : g = w.heap.size) (h : ReAt ok w (.agg #[x0, x1, x2, x3, x4, x5]) r) : RowAt (fun _ => True) (w.alloc (.cells #[x0, x1, x2, x3, x4, x5] 30)) (some ⟨g, 0, none⟩) [r] := by
  subst hg; exact row_new h
theorem below_al (W : World) (o : Obj) : Below W.heap.size W (W.alloc o) := (Below.refl _ W).alloc (Nat.le_refl _) _
theorem below_al2 {W W' : World} {o : Obj} (hb : Below (W.alloc o).heap.size (W.alloc o) W') : Below W.heap.size W W' := (below_al W o).trans (hb.mono (by simp))
theorem size_one (r : Rx) : Rx.sizes [r] = r.size := by simp [Rx.sizes]
theorem size_many (r : Rx) : (Rx.node 6 Ws.nil [r]).size = r.size + 1 := by simp [Rx.size, Rx.sizes]; omega
theorem good_many (r : Rx) (h : goodR r = true) : goodR (Rx.node 6 Ws.nil [r]) = true := by
  have hb : bareB Ws.nil = true := sameW_iff.2 rfl
  simp [goodR, goodRs, nodeGood, hb, h]
theorem may_iff (r : Rx) (n m : Nat) (hg : goodR r = true) (hs : r.size ≤ 2000 ↔ n ≤ m) : [r].all mayR = decide ((n : Int) ≤ (m : Int)) := by
  simp only [List.all_cons, List.all_nil, Bool.and_true, mayR, mayN, hg, Bool.true_and]
  rw [decide_eq_decide, hs]; omega
set_option maxHeartbeats 4000000 in
set_option maxRecDepth 100000 in
theorem rexMost_walk (m : Nat) (w : World) (hm : m < 256) :
    Calls Try.prog 6 #[.int .u8 m] w fun e w' => e = .returned (.bool true) ∧ Below w.heap.size w w' := by
  obtain ⟨i0, hi, hz0, hz1, hz2⟩ := info_parts u8Info
  have hz2' := Lib.hid hz2
  clear hz2
  obtain ⟨n, hn⟩ : ∃ n : Nat, n = 995 + m % 8 := ⟨_, rfl⟩
  have e : (995 : Int) + (m : Int) % 8 = (n : Int) := by omega
  have n1 : 995 ≤ n := by omega
  have n2 : n ≤ 1002 := by omega
  clear hn
  go_enter Try.func6, Try.ntmps6
  go_wp2
  clear e
  go_loopw [4, 5] (fun v y wr => mostInv n w v y wr) (fun _ y _ => n - (intOf y).toNat)
  case atStart =>
    exact ⟨0, Nat.zero_le _, rfl, below_al w _, rfl, .inr ⟨w.heap.size, 0, #[], rfl, Nat.le_refl _, new_block w _, Nat.le_refl _, Nat.zero_le _, rfl, rfl⟩⟩
  case round =>
    obtain ⟨k, hk, rfl, hb, hown⟩ := hrel
    have HO := Lib.hid hown
    have hsz := hb.size
    clear hown
    by_cases hlt : k < n
    · have hlt' : (k : Int) < (n : Int) := by omega
      go_wp2_with (at_builtin; refine wpList_append_own _ rfl _ _ 43 rfl w.heap.size 5 i0 (.int .u8 0) 1 1 Try.underlying43 hi hz0 hz1 hz2'.out rfl (by decide) _ _ _ rfl (HO.out.alloc _) ⟨wr.heap.size, 0, none⟩ 1 1 [.int .u8 97] rfl rfl ?c1 ?c2 ?c3 ?c4 ?c5 ?_)
      case c1 =>
        intro j u hj
        match j, hj with
        | 0, hj => simp at hj; subst hj; simp [Addr.add]
      case c2 => intro u hu; simp at hu; subst hu; rfl
      case c3 => unfold maxLen; omega
      case c4 => omega
      case c5 => simp; omega
      intro v' w2 hown' hgrow _
      have hb3 : Below w.heap.size w w2 := (hb.alloc hsz _).grown hgrow (by simp; omega) (own_ge HO.out)
      have HOW := Lib.hid hown'
      clear hgrow hown'
      go_wp2
      exact ⟨⟨k + 1, by omega, by go_num, hb3, by rw [asL_succ]; exact HOW.out⟩, by simp [intOf]; omega⟩
    · obtain rfl : k = n := by omega
      have hal : (asL k).length = k := by simp [asL]
      obtain ⟨a', cap, hv, hcap, hat⟩ := ret_bytes (l := asL k) (by rw [hal]; exact HO.out)
      subst hv
      have hcv := conv_bytes hat cap
      rw [hal] at hcv
      have hss : (⟨(asL k).toArray⟩ : ByteArray).size = k := by show (asL k).toArray.size = k; simp [asL]
      have KW := Lib.hid fun W => word_any ⟨(asL k).toArray⟩ W (by rw [hss]; omega)
      have hsz2 := word_size ⟨(asL k).toArray⟩ (by rw [hss]; omega)
      have hgd := word_good ⟨(asL k).toArray⟩ (by rw [hss]; omega)
      rw [hss] at hsz2
      generalize foldR 4 2 (wordL ⟨(asL k).toArray⟩) = r at *
      generalize (⟨(asL k).toArray⟩ : ByteArray) = S at *
      rw [hal]
      have hs1 := size_many r
      have hg1 := good_many r hgd
      have hs2 := size_many (Rx.node 6 Ws.nil [r])
      have hg2 := good_many _ hg1
      have e1 : wrap64 ((Rx.sizes [r] : Nat) : Int) = 2 * (k : Int) - 1 := by rw [size_one, hsz2]; unfold wrap64; omega
      have e2 := may_iff r k 1000 hgd (by omega)
      have e3 := may_iff _ k 1000 hg1 (by rw [hs1]; omega)
      have e4 := may_iff _ k 999 hg2 (by rw [hs2, hs1]; omega)
      have e4' : decide ((k : Int) ≤ ((999 : Nat) : Int)) = decide ((k : Int) < 1000) := by rw [decide_eq_decide]; omega
      rw [e4'] at e4
      have KS := Lib.hid fun (al : Option Addr) (W : World) (h : RowAt (fun _ => True) W al [r]) => sizeX [r] al 1 W (by simp) h
      have KM := Lib.hid fun (al : Option Addr) (W : World) (h : RowAt (fun _ => True) W al [r]) => mayX [r] al 1 W (by simp) h
      have KM2 := Lib.hid fun (al : Option Addr) (W : World) (h : RowAt (fun _ => True) W al [Rx.node 6 Ws.nil [r]]) => mayX _ al 1 W (by simp) h
      have KM3 := Lib.hid fun (al : Option Addr) (W : World) (h : RowAt (fun _ => True) W al [Rx.node 6 Ws.nil [Rx.node 6 Ws.nil [r]]]) => mayX _ al 1 W (by simp) h
      have KA := Lib.hid awake_any
      rw [e1] at KS
      rw [e2] at KM
      rw [e3] at KM2
      rw [e4] at KM3
      rw [show ((1000 : Nat) : Int) = 1000 from rfl] at KM KM2
      simp only [List.length_singleton] at KS KM KM2 KM3
      clear e1 e2 e3 e4 e4' hs1 hg1 hs2 hg2 hsz2 hgd hss hal HO hat
      go_wp2_with fail
      refine (KW.out _).mono ?_
      rintro e w1 ⟨v, rfl, hv, hb1⟩
      obtain ⟨x0, x1, x2, x3, x4, bl, n', cp, rfl⟩ := cells_re hv
      have B := Lib.hid (Held.new hv (hb.trans (hb1.mono hsz)))
      clear hv hb1 hcv
      obtain ⟨d0, d1, d2, d3, d4, d5, -⟩ := cellsR B.out.2.1
      go_wp2_with fail
      refine (KS.out _ _ (row_at (by simp) B.out.2.2)).mono ?_
      rintro e w2 ⟨rfl, hb2⟩
      replace B := Lib.hid (B.out.go (below_al2 hb2))
      clear hb2 d0 d1 d2 d3 d4 d5
      obtain ⟨d0, d1, d2, d3, d4, d5, -⟩ := cellsR B.out.2.1
      go_wp2_with fail
      refine (KM.out _ _ (row_at (by simp) B.out.2.2)).mono ?_
      rintro e w3 ⟨rfl, hb2⟩
      replace B := Lib.hid (B.out.go (below_al2 hb2))
      clear hb2 d0 d1 d2 d3 d4 d5
      obtain ⟨d0, d1, d2, d3, d4, d5, -⟩ := cellsR B.out.2.1
      go_wp2_with fail
      refine (manyX_any r _ _ B.out.2.2).mono ?_
      rintro e w4 ⟨v, rfl, hv, hb2⟩
      obtain ⟨y0, y1, y2, y3, y4, yl, yn, yc, rfl⟩ := cells_re hv
      replace B := Lib.hid (B.out.go hb2)
      have HV := Lib.hid hv
      clear hb2 d0 d1 d2 d3 d4 d5 hv
      go_wp2_with fail
      refine (KM2.out _ _ (row_at (by simp) HV.out)).mono ?_
      rintro e w5 ⟨rfl, hb2⟩
      replace B := Lib.hid (B.out.go (below_al2 hb2))
      clear hb2 HV
      obtain ⟨d0, d1, d2, d3, d4, d5, -⟩ := cellsR B.out.2.1
      go_wp2_with fail
      refine (manyX_any r _ _ B.out.2.2).mono ?_
      rintro e w6 ⟨v, rfl, hv, hb2⟩
      obtain ⟨z0, z1, z2, z3, z4, zl, zn, zc, rfl⟩ := cells_re hv
      replace B := Lib.hid (B.out.go hb2)
      have HV := Lib.hid hv
      clear hb2 d0 d1 d2 d3 d4 d5 hv
      go_wp2_with fail
      refine (manyX_any _ _ _ HV.out).mono ?_
      rintro e w7 ⟨v, rfl, hv, hb2⟩
      obtain ⟨t0, t1, t2, t3, t4, tl, tn, tc, rfl⟩ := cells_re hv
      replace B := Lib.hid (B.out.go hb2)
      have HV2 := Lib.hid hv
      clear hb2 hv HV
      go_wp2_with fail
      refine (KM3.out _ _ (row_at (by simp) HV2.out)).mono ?_
      rintro e w8 ⟨rfl, hb2⟩
      replace B := Lib.hid (B.out.go (below_al2 hb2))
      clear hb2 HV2
      go_wp2_with fail
      refine (KA.out _).mono ?_
      rintro e w9 ⟨rfl, hb2⟩
      have hB := (B.out.go hb2).1
      clear hb2
      go_wp2
      go_ret
      exact ⟨rfl, hB⟩
end Go.Proofs.Ytfbhmljajoaniaa
