/- set.Text. -/
import Derived.Test.YtdkdgbiagjflgaaDoorSetK
import Derived.Test.YtdkdgbiagjflgaaDoorSetQ
namespace Go.Proofs.YtdkdgbiagjflgaaDoor
open Go.RowKit
theorem keepX {w W w1 : World} {g : Nat} {s : Ws} (hB : Box w g s) (h : Below w.heap.size w W) (hb : Below W.heap.size W w1) :
    (w1.cell? ⟨g, 0, none⟩ = some (.int .u64 s.a) ∧ w1.cell? ⟨g, 1, none⟩ = some (.int .u64 s.b) ∧ w1.cell? ⟨g, 2, none⟩ = some (.int .u64 s.c) ∧ w1.cell? ⟨g, 3, none⟩ = some (.int .u64 s.d)) ∧ Below w.heap.size w w1 := by
  have h2 := h.trans (hb.mono h.size)
  exact ⟨(hB.below h2 hB.lt).cells, h2⟩
theorem everyByte_lit (w : World) :
    Calls Tryd.prog 59 #[] w fun e w' => e = .returned (.agg #[.int .u64 18446744073709551615, .int .u64 18446744073709551615, .int .u64 18446744073709551615, .int .u64 18446744073709551615]) ∧ Below w.heap.size w w' := everyByte_any w
set_option maxHeartbeats 800000 in
theorem text_full (s : Ws) (w : World) (hf : s = Ws.full) :
    Calls Tryd.prog 51 #[s.v] w fun e w' => e = .returned (.string ⟨(textW s).toArray⟩) ∧ Below w.heap.size w w' := by
  have ht : textW s = [46] := by
    unfold textW; rw [if_pos (by rw [hf]; exact (full_of_length Ws.full_ok).2 rfl)]
  rw [ht]
  clear ht
  have hq : ∀ w, (Op.equalIn 10000 28 s.v (.agg #[.int .u64 18446744073709551615, .int .u64 18446744073709551615, .int .u64 18446744073709551615, .int .u64 18446744073709551615])).run Tryd.prog w = .ok true w := by
    rw [hf]; exact eqW_yes Ws.full
  clear hf
  obtain ⟨a, b, c, d⟩ := s
  unfold Ws.v at *
  go_enter Tryd.func51, Tryd.ntmps51
  go_wp2_with fail
  have hB0 := Box.new4 w a b c d
  have hbw : Below w.heap.size w (w.alloc (.cells #[.int .u64 a, .int .u64 b, .int .u64 c, .int .u64 d] 28)) := (Below.refl _ w).alloc (Nat.le_refl _) _
  generalize hW : w.alloc (.cells #[.int .u64 a, .int .u64 b, .int .u64 c, .int .u64 d] 28) = W at *
  clear hW
  obtain ⟨⟨c0, c1, c2, c3⟩, -⟩ := hB0.all
  go_region_held3 (fun w' => (w'.cell? ⟨w.heap.size, 0, none⟩ = some (.int .u64 a) ∧ w'.cell? ⟨w.heap.size, 1, none⟩ = some (.int .u64 b) ∧ w'.cell? ⟨w.heap.size, 2, none⟩ = some (.int .u64 c) ∧ w'.cell? ⟨w.heap.size, 3, none⟩ = some (.int .u64 d)) ∧ Below W.heap.size W w') (first | exact ⟨⟨c0, c1, c2, c3⟩, (Below.refl _ _).drew⟩ | exact keepX hB0 (And.right (by assumption)) (by assumption))
      (first | (go_at_call 59; (with_reducible refine (everyByte_lit _).mono ?_); rintro e w' ⟨rfl, hbb⟩))
  obtain ⟨-, hbx⟩ := ‹_ ∧ Below W.heap.size W _›
  clear c0 c1 c2 c3
  go_wp2
  go_ret
  exact ⟨rfl, hbw.trans (hbx.mono hbw.size)⟩
theorem NatsAt.take_run {w : World} {a : Option Addr} {x : Nat} {l : List Nat} (h : NatsAt w a (x :: l)) : NatsAt w a (List.range' x (1 + runFrom x l)) := by
  have e : List.range' x (1 + runFrom x l) = (x :: l).take (1 + runFrom x l) := by
    rw [Nat.add_comm 1, List.range'_succ, List.take_succ_cons, runFrom_take]
  rw [e]
  obtain ⟨h1, h2, h3⟩ := h
  refine ⟨fun y hy => h1 y (List.mem_of_mem_take hy), ?_, ?_⟩
  · have := List.length_take_le (1 + runFrom x l) (x :: l)
    rw [List.length_take]; omega
  · rcases h3 with h3 | ⟨b, off, rfl, hb, hc⟩
    · simp at h3
    · refine .inr ⟨b, off, rfl, hb, fun i hi => ?_⟩
      have hi' : i < (x :: l).length := by rw [List.length_take] at hi; omega
      rw [hc i hi']
      simp only [List.getElem_take]
theorem NatsAt.drop_run {w : World} {a : Option Addr} {x : Nat} {l : List Nat} (h : NatsAt w a (x :: l)) (r : Nat) : NatsAt w (a.map fun p => p.add (1 + r)) (l.drop r) := by
  obtain ⟨h1, h2, h3⟩ := h
  refine ⟨fun y hy => h1 y (List.mem_cons_of_mem _ (List.mem_of_mem_drop hy)), ?_, ?_⟩
  · rw [List.length_drop]; simp at h2; omega
  · rcases h3 with h3 | ⟨b, off, rfl, hb, hc⟩
    · simp at h3
    · refine .inr ⟨b, off + (1 + r), ?_, hb, fun i hi => ?_⟩
      · simp [Addr.add]
      · rw [List.length_drop] at hi
        have := hc (1 + r + i) (by simp; omega)
        rw [← Nat.add_assoc] at this
        rw [this]
        simp only [List.getElem_drop]
        have e : 1 + r + i = (r + i) + 1 := by omega
        simp [e]
theorem bytesN_pair (s : Ws) : (bytesN s).Pairwise (· < ·) := List.Pairwise.filter _ List.pairwise_lt_range
def lenOf : Value → Nat
  | .slice _ n _ => n
  | _ => 0
def txtInv (L : List Nat) (w : World) (v : Value) (wr : World) : Prop := ∃ (al : Option Addr) (l : List Nat) (cap : Nat) (pre : List UInt8), v = .slice al l.length cap ∧ l.length ≤ cap ∧ NatsAt w al l ∧ l.Pairwise (· < ·) ∧ pre ++ textOf l = textOf L ∧
  Lib.IsBuilderF 49 5 w.heap.size w.heap.size (Lib.byteCells (91 :: pre)) wr ∧ Below w.heap.size w wr
set_option maxHeartbeats 800000 in
theorem text_some (s : Ws) (w : World) (hs : s.Ok) (hT : Tab w) (hf : s ≠ Ws.full) :
    Calls Tryd.prog 51 #[s.v] w fun e w' => e = .returned (.string ⟨(textW s).toArray⟩) ∧ Below w.heap.size w w' := by
  have hq : ∀ w, (Op.equalIn 10000 28 s.v (.agg #[.int .u64 18446744073709551615, .int .u64 18446744073709551615, .int .u64 18446744073709551615, .int .u64 18446744073709551615])).run Tryd.prog w = .ok false w := by
    have hv : Ws.full.v = .agg #[.int .u64 18446744073709551615, .int .u64 18446744073709551615, .int .u64 18446744073709551615, .int .u64 18446744073709551615] := rfl
    intro w; rw [← hv]; exact eqW_no hf w
  have h256 : ¬ (bytesN s).length = 256 := fun e => hf ((full_of_length hs).1 e)
  have HT := Lib.hid hT
  have H256 := Lib.hid h256
  clear hf h256 hT
  obtain ⟨a, b, c, d⟩ := s
  unfold Ws.v at *
  go_enter Tryd.func51, Tryd.ntmps51
  go_wp2_with fail
  have hB0 := Box.new4 w a b c d
  have hbw : Below w.heap.size w (w.alloc (.cells #[.int .u64 a, .int .u64 b, .int .u64 c, .int .u64 d] 28)) := (Below.refl _ w).alloc (Nat.le_refl _) _
  generalize hW : w.alloc (.cells #[.int .u64 a, .int .u64 b, .int .u64 c, .int .u64 d] 28) = W at *
  clear hW
  obtain ⟨⟨c0, c1, c2, c3⟩, -⟩ := hB0.all
  go_region_held3 (fun w' => (w'.cell? ⟨w.heap.size, 0, none⟩ = some (.int .u64 a) ∧ w'.cell? ⟨w.heap.size, 1, none⟩ = some (.int .u64 b) ∧ w'.cell? ⟨w.heap.size, 2, none⟩ = some (.int .u64 c) ∧ w'.cell? ⟨w.heap.size, 3, none⟩ = some (.int .u64 d)) ∧ Below W.heap.size W w') (first | exact ⟨⟨c0, c1, c2, c3⟩, (Below.refl _ _).drew⟩ | exact keepX hB0 (And.right (by assumption)) (by assumption))
      (first | (go_at_call 59; (with_reducible refine (everyByte_lit _).mono ?_); rintro e w' ⟨rfl, hbb⟩))
  obtain ⟨-, hbx⟩ := ‹_ ∧ Below W.heap.size W _›
  clear c0 c1 c2 c3
  have hB1 := hB0.below hbx hB0.lt
  replace hbw := hbw.trans (hbx.mono hbw.size)
  have hT1 := HT.out.below hbw HT.out.1
  clear hB0 hbx hq
  obtain ⟨⟨c0, c1, c2, c3⟩, -⟩ := hB1.all
  go_wp2_with fail
  refine (bytes_any ⟨a, b, c, d⟩ _ hs hT1).mono ?_
  rintro e w2 ⟨al, cap, rfl, hcap, hb2, hat⟩
  have hN := natsAt_of hat (bytesN_lt _)
  replace hbw := hbw.trans (hb2.mono hbw.size)
  have hp := bytesN_pair ⟨a, b, c, d⟩
  have hmax := bytesN_length_le ⟨a, b, c, d⟩
  rw [u8s_length] at hcap ⊢
  clear c0 c1 c2 c3 hB1 hT1 hb2 hat
  generalize hL : bytesN ⟨a, b, c, d⟩ = L at *
  have hsz := hbw.size
  by_cases h1 : L.length = 1
  · obtain ⟨x, rfl⟩ := List.length_eq_one_iff.1 h1
    have ht : textW ⟨a, b, c, d⟩ = signL x := by
      unfold textW; rw [hL]; simp
    have HTX := Lib.hid ht
    clear ht hL
    obtain ⟨b', off, hab, hblt, hc⟩ : ∃ b off, al = some ⟨b, off, none⟩ ∧ b < w2.heap.size ∧ ∀ i (h : i < [x].length), w2.cell? ⟨b, off + i, none⟩ = some (.int .u8 ([x][i] : Nat)) := by
      rcases hN.2.2 with h | h
      · simp at h
      · exact h
    subst hab
    have c0 : w2.cell? ⟨b', off, none⟩ = some (.int .u8 x) := by have := hc 0 (by simp); simpa using this
    have hx : x < 256 := hN.1 x (by simp)
    clear hc hN h1 hp H256
    simp only [List.length_singleton]
    go_wp2_with fail
    refine (sign_any x _ hx).mono ?_
    rintro e w3 ⟨rfl, hb3⟩
    go_wp2
    go_ret
    exact ⟨by rw [HTX.out]; rfl, hbw.trans (hb3.mono hsz)⟩
  · have ht : textW ⟨a, b, c, d⟩ = 91 :: (textOf L ++ [93]) := by
      unfold textW; rw [hL, if_neg H256.out, if_neg h1]
    have HTX := Lib.hid ht
    have HN := Lib.hid hN
    have HP := Lib.hid hp
    have d1 : ((L.length : Int) == 1) = false := by simp; omega
    clear ht hL h1 H256 hN hp
    go_wp2_with fail
    refine (writeByte_any w2.heap.size w2.heap.size [] 91 _ (Lib.IsBuilderF.of (Lib.fresh_isBuilder _ _ w2)) (by simp) (by simp)).mono ?_
    rintro e w3 ⟨rfl, hI, hb3, -⟩
    have hb3' : Below w2.heap.size w2 w3 := ((Below.refl _ w2).alloc (Nat.le_refl _) _).trans hb3
    clear hb3
    go_wp2
    go_loopw [3] (fun v wr => txtInv L w2 v wr) (fun v _ => lenOf v)
    case atStart => exact ⟨al, L, cap, [], rfl, hcap, HN.out, HP.out, rfl, hI, hb3'⟩
    case round =>
      obtain ⟨al', l, cap', pre, rfl, hcap', hN, hp, hpre, hI, hb⟩ := hrel
      cases l with
      | nil =>
        have HPR := Lib.hid hpre
        have HI := Lib.hid hI
        have hszr := hb.size
        have hpe : pre = textOf L := by rw [← hpre, textOf_nil, List.append_nil]
        have hlP : (91 :: pre).length ≤ 2000 := by
          have h2 := textOf_length L
          rw [hpe]; simp; omega
        have HPE := Lib.hid hpe
        clear hpre hI hpe hN hp
        simp only [List.length_nil]
        go_wp2_with fail
        refine (writeByte_any w2.heap.size w2.heap.size _ 93 _ HI.out (by rw [Lib.byteCells_length]; omega) hszr).mono ?_
        rintro e w4 ⟨rfl, hI4, hb4, -⟩
        have hb4' := hb.trans hb4
        have hI5 : Lib.IsBuilderF 49 5 w2.heap.size w2.heap.size (Lib.byteCells ((91 :: pre) ++ [93])) w4 := by
          rw [Lib.byteCells_append]; exact hI4
        have HI5 := Lib.hid hI5
        clear hI4 hb4 hI5
        go_wp2_with fail
        refine (Tryd.Builder_String_any_k w2.heap.size w2.heap.size ((91 :: pre) ++ [93]) _ HI5.out hb4'.size).mono ?_
        rintro e w5 ⟨rfl, -, hb5, -⟩
        go_wp2
        go_ret
        refine ⟨?_, hbw.trans ((hb4'.trans hb5).mono hsz)⟩
        rw [HTX.out, ← HPE.out]; rfl
      | cons x l' =>
        have HI := Lib.hid hI
        have HPR := Lib.hid hpre
        have HN' := Lib.hid hN
        have HP' := Lib.hid hp
        have hNr := hN.below hb
        have hszr := hb.size
        clear hI hpre hp
        have hd0 : (0 : Int) < (l'.length : Int) + 1 := by omega
        have hd1 : decide ((0 : Int) < (l'.length : Int) + 1) = true := by simp
        simp only [List.length_cons] at *
        go_wp2_with fail
        refine (runLength_any al' x l' cap' _ hNr HP'.out).mono ?_
        rintro e w4 ⟨rfl, m, rfl⟩
        have hle := runFrom_le x l'
        have htake : NatsAt (wr.drewN m) al' (List.range' x (1 + runFrom x l')) := hNr.take_run
        have hI4 := Lib.hid (show Lib.IsBuilderF 49 5 w2.heap.size w2.heap.size (Lib.byteCells (91 :: pre)) (wr.drewN m) from HI.out)
        have hb4 : Below w2.heap.size w2 (wr.drewN m) := below_drewN hb m
        have hT4 := Lib.hid (textOf_cons x l')
        clear hNr HI hb hN
        generalize hn : runFrom x l' = r at *
        generalize wr.drewN m = W4 at *
        have HNR := Lib.hid hn
        clear hn
        obtain ⟨n, hn⟩ : ∃ n, n = 1 + r := ⟨_, rfl⟩
        rw [← hn] at htake ⊢
        have HNN := Lib.hid hn
        have q1 : 1 ≤ n := by omega
        have q2 : n ≤ l'.length + 1 := by omega
        have q3 : n ≤ cap' := by omega
        have q4 : (n : Int) ≤ (cap' : Int) := by omega
        clear hn
        go_wp2_with fail
        refine (runText_any al' x n cap' _ htake q1).mono ?_
        rintro e w5 ⟨rfl, hb5⟩
        have hI5 := Lib.hid (builder_below hI4.out hb5)
        have hb5' := hb4.trans (hb5.mono hb4.size)
        have hs5 := hb5'.size
        have hlX := segL_length x n
        have hlP : (91 :: pre).length ≤ 2000 := by
          have h1 := congrArg List.length HPR.out
          have h2 := textOf_length L
          simp at h1 ⊢; omega
        generalize hX : segL x n = X at *
        have HX := Lib.hid hX
        clear hX hb5 hb4 hI4 htake
        go_wp2_with fail
        refine (writeString_any w2.heap.size w2.heap.size _ ⟨X.toArray⟩ _ hI5.out ?hl hs5).mono ?_
        case hl =>
          show _ + X.toArray.size ≤ _
          rw [Lib.byteCells_length]; simp at hlP ⊢; omega
        rintro e w6 ⟨rfl, hI6, hb6⟩
        have HI6 := Lib.hid hI6
        have hb6' := hb5'.trans hb6
        clear hI6 hb6 hb5' hI5
        have hq5 : (n : Int) ≤ (l'.length : Int) + 1 := by omega
        have HB6 : Hid (Lib.IsBuilderF 49 5 w2.heap.size w2.heap.size (Lib.byteCells (91 :: (pre ++ X))) w6) := by
          refine Lib.hid ?_
          have e : (91 :: (pre ++ X) : List UInt8) = (91 :: pre) ++ X := rfl
          rw [e, Lib.byteCells_append, ← strCells_mk X]; exact HI6.out
        have HTE : Hid (pre ++ X ++ textOf (l'.drop r) = textOf L) := by
          refine Lib.hid ?_
          rw [← HPR.out, hT4.out, ← HNN.out, HX.out, List.append_assoc]
        by_cases hcn : cap' = n
        · go_wp2
          have hr : l'.drop r = [] := List.drop_eq_nil_of_le (by have := HNN.out; omega)
          refine ⟨⟨al', l'.drop r, 0, pre ++ X, ?_, ?_, ?_, ?_, HTE.out, HB6.out, hb6'⟩, ?_⟩
          · rw [List.length_drop, HNN.out]; congr 1; omega
          · rw [hr]; simp
          · rw [hr]; exact ⟨by simp, by simp, .inl rfl⟩
          · rw [hr]; exact List.Pairwise.nil
          · simp [lenOf]; omega
        · have hcn' : ¬ (cap' : Int) = (n : Int) := by omega
          go_wp2
          refine ⟨⟨al'.map fun p => p.add n, l'.drop r, cap' - n, pre ++ X, ?_, ?_, ?_, ?_, HTE.out, HB6.out, hb6'⟩, ?_⟩
          · rw [List.length_drop, HNN.out]; congr 1; omega
          · rw [List.length_drop, HNN.out]; omega
          · rw [HNN.out]; exact HN'.out.drop_run r
          · exact (List.Pairwise.tail HP'.out).drop
          · simp [lenOf]; omega
theorem text_any (s : Ws) (w : World) (hs : s.Ok) (hT : Tab w) :
    Calls Tryd.prog 51 #[s.v] w fun e w' => e = .returned (.string ⟨(textW s).toArray⟩) ∧ Below w.heap.size w w' := by
  by_cases hf : s = Ws.full
  · exact text_full s w hf
  · exact text_some s w hs hT hf
end Go.Proofs.YtdkdgbiagjflgaaDoor
