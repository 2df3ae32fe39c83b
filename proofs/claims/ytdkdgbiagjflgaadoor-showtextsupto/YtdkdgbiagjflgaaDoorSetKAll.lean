/- Lemmas of mine, merged: SetK, SetL, SetO, ShowA, ShowB, ShowC, ShowE, ShowSignsW, ShowAw, ShowP, ShowQ, ShowR, ShowS, ShowApartW, ShowTextsW, ShowT, ShowU, ShowV. -/
import Derived.Deep.RegionHeld3
import Derived.Test.YtdkdgbiagjflgaaDoorSetHAll
import Derived.Test.YtdkdgbiagjflgaaDoorSetJAll
import Derived.Test.YtdkdgbiagjflgaaDoorSetAAll
import Derived.Test.YtdkdgbiagjflgaaDoorRexEAll
import Derived.Test.YtdkdgbiagjflgaaDoorRexBAll
import Derived.Test.YtdkdgbiagjflgaaDoorQuietBAll
import Derived.Test.YtdkdgbiagjflgaaDoorRexIAll
import Derived.StillTailTactics
import Derived.Test.YtdkdgbiagjflgaaDoorNumBuildAll
import Derived.Test.YtdkdgbiagjflgaaDoorBaseAll
import Derived.Test.YtdkdgbiagjflgaaDoorNumHexAAll
import Derived.Deep.RegionWith
/- set.runLength and set.runText. -/
namespace Go.Proofs.YtdkdgbiagjflgaaDoor
open Go.RowKit
/-- Bytes in memory, as numbers. -/
def NatsAt (w : World) (a : Option Addr) (l : List Nat) : Prop := (∀ x ∈ l, x < 256) ∧ l.length ≤ maxLen ∧ (l = [] ∨ ∃ b off, a = some ⟨b, off, none⟩ ∧ b < w.heap.size ∧ ∀ i (h : i < l.length), w.cell? ⟨b, off + i, none⟩ = some (.int .u8 (l[i] : Nat)))
theorem natsAt_of {w : World} {a : Option Addr} {l : List Nat} (h : BytesAt w a (u8s l)) (hl : ∀ x ∈ l, x < 256) : NatsAt w a l := by
  refine ⟨hl, by simpa [u8s_length] using h.1, ?_⟩
  rcases h.2 with h0 | ⟨b, off, rfl, hb, hc⟩
  · left; simpa [u8s] using h0
  · refine .inr ⟨b, off, rfl, hb, fun i hi => ?_⟩
    have := hc i (by rw [u8s_length]; exact hi)
    rw [this]
    have h2 := hl _ (List.getElem_mem hi)
    simp [u8s]
    omega
theorem NatsAt.below {w w' : World} {a : Option Addr} {l : List Nat} (h : NatsAt w a l) (hb : Below w.heap.size w w') : NatsAt w' a l := by
  obtain ⟨h1, h2, h3⟩ := h
  refine ⟨h1, h2, ?_⟩
  rcases h3 with h3 | ⟨b, off, rfl, hlt, hc⟩
  · exact .inl h3
  · exact .inr ⟨b, off, rfl, Nat.lt_of_lt_of_le hlt hb.size, fun i h => by rw [hb.cell (p := ⟨b, off + i, none⟩) hlt]; exact hc i h⟩
def runInv (x : Nat) (l : List Nat) (w : World) (i : Value) (wr : World) : Prop := ∃ k m : Nat, k ≤ l.length ∧ i = .int .i64 (1 + k : Nat) ∧ (∀ j, j < k → l[j]? = some (x + 1 + j)) ∧ wr = w.drewN m
theorem pair_le {x : Nat} {l : List Nat} (h : (x :: l).Pairwise (· < ·)) (k : Nat) (hk : k < l.length) : x + k + 1 ≤ l[k] := by
  induction l generalizing x k with
  | nil => simp at hk
  | cons y t ih =>
    have h0 : x < y := by simp at h; exact h.1.1
    cases k with
    | zero => simp; omega
    | succ k =>
      have := ih (x := y) (h.tail) k (by simpa using hk)
      simp at this ⊢; omega
set_option maxHeartbeats 2000000 in
theorem runLength_any (a : Option Addr) (x : Nat) (l : List Nat) (cap : Nat) (w : World) (h : NatsAt w a (x :: l)) (hp : (x :: l).Pairwise (· < ·)) :
    Calls Tryd.prog 61 #[.slice a (l.length + 1) cap] w fun e w' => e = .returned (.int .i64 (1 + runFrom x l : Nat)) ∧ ∃ n, w' = w.drewN n := by
  have hS := Lib.hid h
  have HP := Lib.hid hp
  have hl := h.2.1
  unfold maxLen at hl
  simp at hl
  clear h hp
  go_enter Tryd.func61, Tryd.ntmps61
  go_wp2
  go_loopw [3] (fun i wr => runInv x l w i wr) (fun i _ => l.length + 1 - (intOf i).toNat)
  case atStart => exact ⟨0, 0, Nat.zero_le _, rfl, fun j hj => by omega, rfl⟩
  case round =>
    obtain ⟨k, m, hk, rfl, hall, rfl⟩ := hrel
    have HA := Lib.hid hall
    clear hall
    obtain ⟨b, off, hab, hblt, hc⟩ : ∃ b off, a = some ⟨b, off, none⟩ ∧ b < w.heap.size ∧ ∀ i (h : i < (x :: l).length), w.cell? ⟨b, off + i, none⟩ = some (.int .u8 ((x :: l)[i] : Nat)) := by
      rcases hS.out.2.2 with h | h
      · simp at h
      · exact h
    subst hab
    have hx256 : x < 256 := hS.out.1 x (List.mem_cons_self ..)
    have c0 : (w.drewN m).cell? ⟨b, off, none⟩ = some (.int .u8 x) := by
      have := hc 0 (by simp)
      simpa using this
    obtain ⟨n, hn⟩ : ∃ n, n = 1 + k := ⟨_, rfl⟩
    have hn1 : n ≤ 1 + k := by omega
    have hn2 : 1 + k ≤ n := by omega
    rw [← hn]
    have HN := Lib.hid hn
    clear hn
    by_cases hlt : k < l.length
    · have c1 : (w.drewN m).cell? ⟨b, off + n, none⟩ = some (.int .u8 (l[k] : Nat)) := by
        have := hc (k + 1) (by simpa using hlt)
        rw [HN.out, Nat.add_comm 1]
        simpa using this
      have hy256 : l[k] < 256 := hS.out.1 _ (List.mem_cons_of_mem _ (List.getElem_mem hlt))
      have hge := pair_le HP.out k hlt
      have hd1 : decide ((n : Int) < (l.length : Int) + 1) = true := by simp; omega
      have hd2 : decide (n < l.length + 1) = true := by simp; omega
      clear hc
      generalize hy : l[k] = y at *
      have HY := Lib.hid hy
      clear hy
      generalize hW : w.drewN m = W at *
      have HW := Lib.hid hW
      clear hW
      by_cases he : y = x + n
      · have d1 : ((y : Int) - (x : Int) == (n : Int)) = true := by simp; omega
        have hle : (x : Int) ≤ (y : Int) := by omega
        have HE := Lib.hid he
        clear he
        go_wp2_with fail
        go_quiet (fail)
        go_wp2
        refine ⟨⟨k + 1, m + nq, by omega, ?_, ?_, ?_⟩, by simp [intOf]; omega⟩
        · rw [HN.out]; go_num
        · intro j hj
          by_cases e : j = k
          · subst e
            rw [List.getElem?_eq_getElem hlt, HY.out, HE.out, HN.out]; congr 1; omega
          · exact HA.out j (by omega)
        · rw [← HW.out, World.drewN_drewN]
      · have d1 : ((y : Int) - (x : Int) == (n : Int)) = false := by simp; omega
        have hle : (x : Int) ≤ (y : Int) := by omega
        have hr : runFrom x l = k := runFrom_eq HA.out (by
          rw [List.getElem?_eq_getElem hlt, HY.out]
          intro e; injection e with e; omega)
        have HR := Lib.hid hr
        clear he hr
        go_wp2_with fail
        go_quiet (fail)
        go_wp2
        go_ret
        refine ⟨?_, m + nq, ?_⟩
        · rw [HR.out, ← HN.out]; rfl
        · rw [← HW.out, World.drewN_drewN]
    · have hd1 : decide ((n : Int) < (l.length : Int) + 1) = false := by simp; omega
      have hd2 : decide (n < l.length + 1) = false := by simp; omega
      have hr : runFrom x l = k := runFrom_eq HA.out (by rw [List.getElem?_eq_none (by omega)]; simp)
      have HR := Lib.hid hr
      clear hr hc
      generalize hW : w.drewN m = W at *
      have HW := Lib.hid hW
      clear hW
      go_wp2_with fail
      go_quiet (fail)
      go_wp2
      go_ret
      refine ⟨?_, m + nq, ?_⟩
      · rw [HR.out, ← HN.out]; rfl
      · rw [← HW.out, World.drewN_drewN]
def catS (l : List Nat) : List UInt8 := l.flatMap signL
theorem catS_length (x k : Nat) : (catS (List.range' x k)).length ≤ 3 * k := by
  induction k with
  | zero => simp [catS]
  | succ k ih =>
    have := (signL_length (x + 1 * k)).1
    rw [List.range'_concat]
    simp [catS] at ih ⊢
    simp at this
    omega
def catInv (x n : Nat) (w : World) (i : Value) (wr : World) : Prop := ∃ k : Nat, k ≤ n ∧ i = .int .i64 k ∧ Lib.IsBuilderF 49 5 w.heap.size w.heap.size (Lib.byteCells (catS (List.range' x k))) wr ∧ Below w.heap.size w wr
theorem keepB {w W w1 : World} {p q : Addr} {u v : Value} (hp : p.block < w.heap.size) (hq : q.block < w.heap.size) (c0 : w.cell? p = some u) (c1 : w.cell? q = some v) (h : Below w.heap.size w W) (hb : Below W.heap.size W w1) :
    w1.cell? p = some u ∧ w1.cell? q = some v ∧ Below w.heap.size w w1 := by
  have h2 := h.trans (hb.mono h.size)
  exact ⟨by rw [h2.cell hp]; exact c0, by rw [h2.cell hq]; exact c1, h2⟩
set_option maxHeartbeats 800000 in
theorem runText_any (a : Option Addr) (x n : Nat) (cap : Nat) (w : World) (h : NatsAt w a (List.range' x n)) (hn : 1 ≤ n) :
    Calls Tryd.prog 62 #[.slice a n cap] w fun e w' => e = .returned (.string ⟨(segL x n).toArray⟩) ∧ Below w.heap.size w w' := by
  have hS := Lib.hid h
  have hxn : x + n - 1 < 256 := by
    have := h.1 (x + n - 1) (by simp [List.mem_range'_1]; omega)
    exact this
  obtain ⟨b, off, hab, hblt, hc⟩ : ∃ b off, a = some ⟨b, off, none⟩ ∧ b < w.heap.size ∧ ∀ i, i < n → w.cell? ⟨b, off + i, none⟩ = some (.int .u8 (x + i : Nat)) := by
    rcases h.2.2 with h | ⟨b, off, h1, h2, h3⟩
    · simp at h; omega
    · refine ⟨b, off, h1, h2, fun i hi => ?_⟩
      have := h3 i (by simpa using hi)
      simpa using this
  subst hab
  clear h
  by_cases h3 : 3 ≤ n
  · have e : segL x n = signL x ++ 45 :: signL (x + n - 1) := by simp [segL, h3]
    rw [e]
    clear e
    have c0 : w.cell? ⟨b, off, none⟩ = some (.int .u8 x) := by have := hc 0 (by omega); simpa using this
    obtain ⟨p, rfl⟩ : ∃ p, n = p + 1 := ⟨n - 1, by omega⟩
    have c1 : w.cell? ⟨b, off + p, none⟩ = some (.int .u8 (x + p : Nat)) := hc p (by omega)
    have ey : x + (p + 1) - 1 = x + p := by omega
    rw [ey] at hxn ⊢
    have hx256 : x < 256 := by omega
    have hpb : p < 257 := by omega
    clear hc ey hS
    generalize x + p = y at *
    obtain ⟨X, hX⟩ : ∃ X, signL x = X := ⟨_, rfl⟩
    obtain ⟨Y, hY⟩ : ∃ Y, signL y = Y := ⟨_, rfl⟩
    have lX : X.length ≤ 3 := by rw [← hX]; exact (signL_length x).1
    have lY : Y.length ≤ 3 := by rw [← hY]; exact (signL_length y).1
    have kX := fun W => sign_any x W hx256
    have kY := fun W => sign_any y W hxn
    rw [hX] at kX ⊢
    rw [hY] at kY ⊢
    have hfin : (⟨(X ++ 45 :: Y).toArray⟩ : ByteArray) = ByteArray.mk X.toArray ++ ByteArray.mk #[45] ++ ByteArray.mk Y.toArray := by
      apply ByteArray.ext; simp [ByteArray.data_append]
    rw [hfin]
    clear hX hY hfin
    have KX := Lib.hid kX
    have KY := Lib.hid kY
    clear kX kY
    have n1 : ¬ (9223372036854775807 < X.length + 1) := by omega
    have n2 : ¬ (9223372036854775807 < X.length + 1 + Y.length) := by omega
    have hd : decide ((3 : Int) ≤ (p : Int) + 1) = true := by simp; omega
    have hi0 : 0 < p + 1 := by omega
    have hi1 : (0 : Int) ≤ (p : Int) := by omega
    have hi2 : (p : Int) < (p : Int) + 1 := by omega
    have hwr : IntKind.i64.wrap (p : Int) = (p : Int) := IntWalk.i64_in _ (by omega)
    go_enter Tryd.func62, Tryd.ntmps62
    go_wp2_with fail
    go_region_held3 (fun w' => w'.cell? ⟨b, off, none⟩ = some (.int .u8 x) ∧ w'.cell? ⟨b, off + p, none⟩ = some (.int .u8 y) ∧ Below w.heap.size w w') (first | exact ⟨c0, c1, (Below.refl _ _).drew⟩ | (go_split_ands; exact keepB (p := ⟨b, off, none⟩) (q := ⟨b, off + p, none⟩) hblt hblt c0 c1 (by assumption) (by assumption)))
      (first | (go_at_call 18; (with_reducible refine (KX.out _).mono ?_); rintro e w' ⟨rfl, hbb⟩) | (go_at_call 18; (with_reducible refine (KY.out _).mono ?_); rintro e w' ⟨rfl, hbb⟩))
    obtain ⟨-, -, hbw⟩ := ‹_ ∧ _ ∧ Below w.heap.size w _›
    go_wp2
    go_ret
    exact ⟨rfl, hbw⟩
  · have hd : decide ((3 : Int) ≤ (n : Int)) = false := by simp; omega
    have hcat : segL x n = catS (List.range' x n) := by
      have : n = 1 ∨ n = 2 := by omega
      rcases this with rfl | rfl
      · simp [segL, catS]
      · simp [segL, catS, List.range'_succ]
    rw [hcat]
    have HC := Lib.hid hc
    clear hc hcat hS
    go_enter Tryd.func62, Tryd.ntmps62
    go_wp2
    go_loopw [24] (fun i wr => catInv x n w i wr) (fun i _ => n - (intOf i).toNat)
    case atStart => exact ⟨0, Nat.zero_le _, rfl, Lib.IsBuilderF.of (Lib.fresh_isBuilder _ _ w), (Below.refl _ _).alloc (Nat.le_refl _) _⟩
    case round =>
      obtain ⟨k, hk, rfl, hI, hb⟩ := hrel
      have hI' := Lib.hid hI
      clear hI
      have hsz := hb.size
      by_cases hlt : k < n
      · have hcell : wr.cell? ⟨b, off + k, none⟩ = some (.int .u8 (x + k : Nat)) := by rw [hb.cell (p := ⟨b, off + k, none⟩) hblt]; exact HC.out k hlt
        have hy256 : x + k < 256 := by omega
        have hsn : catS (List.range' x (k + 1)) = catS (List.range' x k) ++ signL (x + k) := by
          rw [List.range'_concat]; simp [catS]
        have hlen : (catS (List.range' x k)).length ≤ 3 * k := catS_length x k
        have HS := Lib.hid hsn
        clear hsn
        generalize x + k = y at *
        have ly := (signL_length y).1
        go_wp2_with fail
        refine (sign_any y _ hy256).mono ?_
        rintro e w1 ⟨rfl, hb1⟩
        have hI1 := Lib.hid (builder_below hI'.out hb1)
        have hbw := hb.trans (hb1.mono hsz)
        have hsz1 := hbw.size
        clear hcell hb1
        generalize hY : signL y = Y at *
        have HY := Lib.hid hY
        clear hY
        go_wp2_with fail
        refine (writeString_any w.heap.size w.heap.size _ ⟨Y.toArray⟩ _ hI1.out ?hl hsz1).mono ?_
        case hl =>
          show _ + Y.toArray.size ≤ _
          rw [Lib.byteCells_length]; simp; omega
        rintro e w2 ⟨rfl, hI2, hb2⟩
        have HI2 := Lib.hid hI2
        clear hI2
        go_wp2
        refine ⟨⟨k + 1, by omega, by go_num, ?_, hbw.trans hb2⟩, by simp [intOf]; omega⟩
        rw [HS.out, Lib.byteCells_append, ← strCells_mk]
        exact HI2.out
      · obtain rfl : k = n := by omega
        go_wp2_with fail
        refine (Tryd.Builder_String_any_k w.heap.size w.heap.size (catS (List.range' x k)) _ hI'.out hsz).mono ?_
        rintro e w1 ⟨rfl, -, hb1, -⟩
        go_wp2
        go_ret
        exact ⟨rfl, hb.trans hb1⟩
end Go.Proofs.YtdkdgbiagjflgaaDoor
/- set.Text. -/
namespace Go.Proofs.YtdkdgbiagjflgaaDoor
open Go.RowKit
theorem keepX {w W w1 : World} {g : Nat} {s : Ws} (hB : Box w g s) (h : Below w.heap.size w W) (hb : Below W.heap.size W w1) :
    (w1.cell? ⟨g, 0, none⟩ = some (.int .u64 s.a) ∧ w1.cell? ⟨g, 1, none⟩ = some (.int .u64 s.b) ∧ w1.cell? ⟨g, 2, none⟩ = some (.int .u64 s.c) ∧ w1.cell? ⟨g, 3, none⟩ = some (.int .u64 s.d)) ∧ Below w.heap.size w w1 := by
  have h2 := h.trans (hb.mono h.size)
  exact ⟨(hB.below h2 hB.lt).cells, h2⟩
theorem everyByte_lit (w : World) :
    Calls Tryd.prog 59 #[] w fun e w' => e = .returned (.agg #[.int .u64 18446744073709551615, .int .u64 18446744073709551615, .int .u64 18446744073709551615, .int .u64 18446744073709551615]) ∧ Below w.heap.size w w' := everyByte_any w
set_option maxHeartbeats 800000 in
theorem text_full (s : Ws) (w : World) (hf : s = Ws.full) :
    Calls Tryd.prog 51 #[s.v] w fun e w' => e = .returned (.string ⟨(textW s).toArray⟩) ∧ Below w.heap.size w w' := by
  have ht : textW s = [46] := by
    unfold textW; rw [if_pos (by rw [hf]; exact (full_of_length Ws.full_ok).2 rfl)]
  rw [ht]
  clear ht
  have hq : ∀ w, (Op.equalIn 10000 28 s.v (.agg #[.int .u64 18446744073709551615, .int .u64 18446744073709551615, .int .u64 18446744073709551615, .int .u64 18446744073709551615])).run Tryd.prog w = .ok true w := by
    rw [hf]; exact eqW_yes Ws.full
  clear hf
  obtain ⟨a, b, c, d⟩ := s
  unfold Ws.v at *
  go_enter Tryd.func51, Tryd.ntmps51
  go_wp2_with fail
  have hB0 := Box.new4 w a b c d
  have hbw : Below w.heap.size w (w.alloc (.cells #[.int .u64 a, .int .u64 b, .int .u64 c, .int .u64 d] 28)) := (Below.refl _ w).alloc (Nat.le_refl _) _
  generalize hW : w.alloc (.cells #[.int .u64 a, .int .u64 b, .int .u64 c, .int .u64 d] 28) = W at *
  clear hW
  obtain ⟨⟨c0, c1, c2, c3⟩, -⟩ := hB0.all
  go_region_held3 (fun w' => (w'.cell? ⟨w.heap.size, 0, none⟩ = some (.int .u64 a) ∧ w'.cell? ⟨w.heap.size, 1, none⟩ = some (.int .u64 b) ∧ w'.cell? ⟨w.heap.size, 2, none⟩ = some (.int .u64 c) ∧ w'.cell? ⟨w.heap.size, 3, none⟩ = some (.int .u64 d)) ∧ Below W.heap.size W w') (first | exact ⟨⟨c0, c1, c2, c3⟩, (Below.refl _ _).drew⟩ | exact keepX hB0 (And.right (by assumption)) (by assumption))
      (first | (go_at_call 59; (with_reducible refine (everyByte_lit _).mono ?_); rintro e w' ⟨rfl, hbb⟩))
  obtain ⟨-, hbx⟩ := ‹_ ∧ Below W.heap.size W _›
  clear c0 c1 c2 c3
  go_wp2
  go_ret
  exact ⟨rfl, hbw.trans (hbx.mono hbw.size)⟩
theorem NatsAt.take_run {w : World} {a : Option Addr} {x : Nat} {l : List Nat} (h : NatsAt w a (x :: l)) : NatsAt w a (List.range' x (1 + runFrom x l)) := by
  have e : List.range' x (1 + runFrom x l) = (x :: l).take (1 + runFrom x l) := by
    rw [Nat.add_comm 1, List.range'_succ, List.take_succ_cons, runFrom_take]
  rw [e]
  obtain ⟨h1, h2, h3⟩ := h
  refine ⟨fun y hy => h1 y (List.mem_of_mem_take hy), ?_, ?_⟩
  · have := List.length_take_le (1 + runFrom x l) (x :: l)
    rw [List.length_take]; omega
  · rcases h3 with h3 | ⟨b, off, rfl, hb, hc⟩
    · simp at h3
    · refine .inr ⟨b, off, rfl, hb, fun i hi => ?_⟩
      have hi' : i < (x :: l).length := by rw [List.length_take] at hi; omega
      rw [hc i hi']
      simp only [List.getElem_take]
theorem NatsAt.drop_run {w : World} {a : Option Addr} {x : Nat} {l : List Nat} (h : NatsAt w a (x :: l)) (r : Nat) : NatsAt w (a.map fun p => p.add (1 + r)) (l.drop r) := by
  obtain ⟨h1, h2, h3⟩ := h
  refine ⟨fun y hy => h1 y (List.mem_cons_of_mem _ (List.mem_of_mem_drop hy)), ?_, ?_⟩
  · rw [List.length_drop]; simp at h2; omega
  · rcases h3 with h3 | ⟨b, off, rfl, hb, hc⟩
    · simp at h3
    · refine .inr ⟨b, off + (1 + r), ?_, hb, fun i hi => ?_⟩
      · simp [Addr.add]
      · rw [List.length_drop] at hi
        have := hc (1 + r + i) (by simp; omega)
        rw [← Nat.add_assoc] at this
        rw [this]
        simp only [List.getElem_drop]
        have e : 1 + r + i = (r + i) + 1 := by omega
        simp [e]
theorem bytesN_pair (s : Ws) : (bytesN s).Pairwise (· < ·) := List.Pairwise.filter _ List.pairwise_lt_range
def lenOf : Value → Nat
  | .slice _ n _ => n
  | _ => 0
def txtInv (L : List Nat) (w : World) (v : Value) (wr : World) : Prop := ∃ (al : Option Addr) (l : List Nat) (cap : Nat) (pre : List UInt8), v = .slice al l.length cap ∧ l.length ≤ cap ∧ NatsAt w al l ∧ l.Pairwise (· < ·) ∧ pre ++ textOf l = textOf L ∧
  Lib.IsBuilderF 49 5 w.heap.size w.heap.size (Lib.byteCells (91 :: pre)) wr ∧ Below w.heap.size w wr
set_option maxHeartbeats 800000 in
theorem text_some (s : Ws) (w : World) (hs : s.Ok) (hT : Tab w) (hf : s ≠ Ws.full) :
    Calls Tryd.prog 51 #[s.v] w fun e w' => e = .returned (.string ⟨(textW s).toArray⟩) ∧ Below w.heap.size w w' := by
  have hq : ∀ w, (Op.equalIn 10000 28 s.v (.agg #[.int .u64 18446744073709551615, .int .u64 18446744073709551615, .int .u64 18446744073709551615, .int .u64 18446744073709551615])).run Tryd.prog w = .ok false w := by
    have hv : Ws.full.v = .agg #[.int .u64 18446744073709551615, .int .u64 18446744073709551615, .int .u64 18446744073709551615, .int .u64 18446744073709551615] := rfl
    intro w; rw [← hv]; exact eqW_no hf w
  have h256 : ¬ (bytesN s).length = 256 := fun e => hf ((full_of_length hs).1 e)
  have HT := Lib.hid hT
  have H256 := Lib.hid h256
  clear hf h256 hT
  obtain ⟨a, b, c, d⟩ := s
  unfold Ws.v at *
  go_enter Tryd.func51, Tryd.ntmps51
  go_wp2_with fail
  have hB0 := Box.new4 w a b c d
  have hbw : Below w.heap.size w (w.alloc (.cells #[.int .u64 a, .int .u64 b, .int .u64 c, .int .u64 d] 28)) := (Below.refl _ w).alloc (Nat.le_refl _) _
  generalize hW : w.alloc (.cells #[.int .u64 a, .int .u64 b, .int .u64 c, .int .u64 d] 28) = W at *
  clear hW
  obtain ⟨⟨c0, c1, c2, c3⟩, -⟩ := hB0.all
  go_region_held3 (fun w' => (w'.cell? ⟨w.heap.size, 0, none⟩ = some (.int .u64 a) ∧ w'.cell? ⟨w.heap.size, 1, none⟩ = some (.int .u64 b) ∧ w'.cell? ⟨w.heap.size, 2, none⟩ = some (.int .u64 c) ∧ w'.cell? ⟨w.heap.size, 3, none⟩ = some (.int .u64 d)) ∧ Below W.heap.size W w') (first | exact ⟨⟨c0, c1, c2, c3⟩, (Below.refl _ _).drew⟩ | exact keepX hB0 (And.right (by assumption)) (by assumption))
      (first | (go_at_call 59; (with_reducible refine (everyByte_lit _).mono ?_); rintro e w' ⟨rfl, hbb⟩))
  obtain ⟨-, hbx⟩ := ‹_ ∧ Below W.heap.size W _›
  clear c0 c1 c2 c3
  have hB1 := hB0.below hbx hB0.lt
  replace hbw := hbw.trans (hbx.mono hbw.size)
  have hT1 := HT.out.below hbw HT.out.1
  clear hB0 hbx hq
  obtain ⟨⟨c0, c1, c2, c3⟩, -⟩ := hB1.all
  go_wp2_with fail
  refine (bytes_any ⟨a, b, c, d⟩ _ hs hT1).mono ?_
  rintro e w2 ⟨al, cap, rfl, hcap, hb2, hat⟩
  have hN := natsAt_of hat (bytesN_lt _)
  replace hbw := hbw.trans (hb2.mono hbw.size)
  have hp := bytesN_pair ⟨a, b, c, d⟩
  have hmax := bytesN_length_le ⟨a, b, c, d⟩
  rw [u8s_length] at hcap ⊢
  clear c0 c1 c2 c3 hB1 hT1 hb2 hat
  generalize hL : bytesN ⟨a, b, c, d⟩ = L at *
  have hsz := hbw.size
  by_cases h1 : L.length = 1
  · obtain ⟨x, rfl⟩ := List.length_eq_one_iff.1 h1
    have ht : textW ⟨a, b, c, d⟩ = signL x := by
      unfold textW; rw [hL]; simp
    have HTX := Lib.hid ht
    clear ht hL
    obtain ⟨b', off, hab, hblt, hc⟩ : ∃ b off, al = some ⟨b, off, none⟩ ∧ b < w2.heap.size ∧ ∀ i (h : i < [x].length), w2.cell? ⟨b, off + i, none⟩ = some (.int .u8 ([x][i] : Nat)) := by
      rcases hN.2.2 with h | h
      · simp at h
      · exact h
    subst hab
    have c0 : w2.cell? ⟨b', off, none⟩ = some (.int .u8 x) := by have := hc 0 (by simp); simpa using this
    have hx : x < 256 := hN.1 x (by simp)
    clear hc hN h1 hp H256
    simp only [List.length_singleton]
    go_wp2_with fail
    refine (sign_any x _ hx).mono ?_
    rintro e w3 ⟨rfl, hb3⟩
    go_wp2
    go_ret
    exact ⟨by rw [HTX.out]; rfl, hbw.trans (hb3.mono hsz)⟩
  · have ht : textW ⟨a, b, c, d⟩ = 91 :: (textOf L ++ [93]) := by
      unfold textW; rw [hL, if_neg H256.out, if_neg h1]
    have HTX := Lib.hid ht
    have HN := Lib.hid hN
    have HP := Lib.hid hp
    have d1 : ((L.length : Int) == 1) = false := by simp; omega
    clear ht hL h1 H256 hN hp
    go_wp2_with fail
    refine (writeByte_any w2.heap.size w2.heap.size [] 91 _ (Lib.IsBuilderF.of (Lib.fresh_isBuilder _ _ w2)) (by simp) (by simp)).mono ?_
    rintro e w3 ⟨rfl, hI, hb3, -⟩
    have hb3' : Below w2.heap.size w2 w3 := ((Below.refl _ w2).alloc (Nat.le_refl _) _).trans hb3
    clear hb3
    go_wp2
    go_loopw [3] (fun v wr => txtInv L w2 v wr) (fun v _ => lenOf v)
    case atStart => exact ⟨al, L, cap, [], rfl, hcap, HN.out, HP.out, rfl, hI, hb3'⟩
    case round =>
      obtain ⟨al', l, cap', pre, rfl, hcap', hN, hp, hpre, hI, hb⟩ := hrel
      cases l with
      | nil =>
        have HPR := Lib.hid hpre
        have HI := Lib.hid hI
        have hszr := hb.size
        have hpe : pre = textOf L := by rw [← hpre, textOf_nil, List.append_nil]
        have hlP : (91 :: pre).length ≤ 2000 := by
          have h2 := textOf_length L
          rw [hpe]; simp; omega
        have HPE := Lib.hid hpe
        clear hpre hI hpe hN hp
        simp only [List.length_nil]
        go_wp2_with fail
        refine (writeByte_any w2.heap.size w2.heap.size _ 93 _ HI.out (by rw [Lib.byteCells_length]; omega) hszr).mono ?_
        rintro e w4 ⟨rfl, hI4, hb4, -⟩
        have hb4' := hb.trans hb4
        have hI5 : Lib.IsBuilderF 49 5 w2.heap.size w2.heap.size (Lib.byteCells ((91 :: pre) ++ [93])) w4 := by
          rw [Lib.byteCells_append]; exact hI4
        have HI5 := Lib.hid hI5
        clear hI4 hb4 hI5
        go_wp2_with fail
        refine (Tryd.Builder_String_any_k w2.heap.size w2.heap.size ((91 :: pre) ++ [93]) _ HI5.out hb4'.size).mono ?_
        rintro e w5 ⟨rfl, -, hb5, -⟩
        go_wp2
        go_ret
        refine ⟨?_, hbw.trans ((hb4'.trans hb5).mono hsz)⟩
        rw [HTX.out, ← HPE.out]; rfl
      | cons x l' =>
        have HI := Lib.hid hI
        have HPR := Lib.hid hpre
        have HN' := Lib.hid hN
        have HP' := Lib.hid hp
        have hNr := hN.below hb
        have hszr := hb.size
        clear hI hpre hp
        have hd0 : (0 : Int) < (l'.length : Int) + 1 := by omega
        have hd1 : decide ((0 : Int) < (l'.length : Int) + 1) = true := by simp
        simp only [List.length_cons] at *
        go_wp2_with fail
        refine (runLength_any al' x l' cap' _ hNr HP'.out).mono ?_
        rintro e w4 ⟨rfl, m, rfl⟩
        have hle := runFrom_le x l'
        have htake : NatsAt (wr.drewN m) al' (List.range' x (1 + runFrom x l')) := hNr.take_run
        have hI4 := Lib.hid (show Lib.IsBuilderF 49 5 w2.heap.size w2.heap.size (Lib.byteCells (91 :: pre)) (wr.drewN m) from HI.out)
        have hb4 : Below w2.heap.size w2 (wr.drewN m) := below_drewN hb m
        have hT4 := Lib.hid (textOf_cons x l')
        clear hNr HI hb hN
        generalize hn : runFrom x l' = r at *
        generalize wr.drewN m = W4 at *
        have HNR := Lib.hid hn
        clear hn
        obtain ⟨n, hn⟩ : ∃ n, n = 1 + r := ⟨_, rfl⟩
        rw [← hn] at htake ⊢
        have HNN := Lib.hid hn
        have q1 : 1 ≤ n := by omega
        have q2 : n ≤ l'.length + 1 := by omega
        have q3 : n ≤ cap' := by omega
        have q4 : (n : Int) ≤ (cap' : Int) := by omega
        clear hn
        go_wp2_with fail
        refine (runText_any al' x n cap' _ htake q1).mono ?_
        rintro e w5 ⟨rfl, hb5⟩
        have hI5 := Lib.hid (builder_below hI4.out hb5)
        have hb5' := hb4.trans (hb5.mono hb4.size)
        have hs5 := hb5'.size
        have hlX := segL_length x n
        have hlP : (91 :: pre).length ≤ 2000 := by
          have h1 := congrArg List.length HPR.out
          have h2 := textOf_length L
          simp at h1 ⊢; omega
        generalize hX : segL x n = X at *
        have HX := Lib.hid hX
        clear hX hb5 hb4 hI4 htake
        go_wp2_with fail
        refine (writeString_any w2.heap.size w2.heap.size _ ⟨X.toArray⟩ _ hI5.out ?hl hs5).mono ?_
        case hl =>
          show _ + X.toArray.size ≤ _
          rw [Lib.byteCells_length]; simp at hlP ⊢; omega
        rintro e w6 ⟨rfl, hI6, hb6⟩
        have HI6 := Lib.hid hI6
        have hb6' := hb5'.trans hb6
        clear hI6 hb6 hb5' hI5
        have hq5 : (n : Int) ≤ (l'.length : Int) + 1 := by omega
        have HB6 : Hid (Lib.IsBuilderF 49 5 w2.heap.size w2.heap.size (Lib.byteCells (91 :: (pre ++ X))) w6) := by
          refine Lib.hid ?_
          have e : (91 :: (pre ++ X) : List UInt8) = (91 :: pre) ++ X := rfl
          rw [e, Lib.byteCells_append, ← strCells_mk X]; exact HI6.out
        have HTE : Hid (pre ++ X ++ textOf (l'.drop r) = textOf L) := by
          refine Lib.hid ?_
          rw [← HPR.out, hT4.out, ← HNN.out, HX.out, List.append_assoc]
        by_cases hcn : cap' = n
        · go_wp2
          have hr : l'.drop r = [] := List.drop_eq_nil_of_le (by have := HNN.out; omega)
          refine ⟨⟨al', l'.drop r, 0, pre ++ X, ?_, ?_, ?_, ?_, HTE.out, HB6.out, hb6'⟩, ?_⟩
          · rw [List.length_drop, HNN.out]; congr 1; omega
          · rw [hr]; simp
          · rw [hr]; exact ⟨by simp, by simp, .inl rfl⟩
          · rw [hr]; exact List.Pairwise.nil
          · simp [lenOf]; omega
        · have hcn' : ¬ (cap' : Int) = (n : Int) := by omega
          go_wp2
          refine ⟨⟨al'.map fun p => p.add n, l'.drop r, cap' - n, pre ++ X, ?_, ?_, ?_, ?_, HTE.out, HB6.out, hb6'⟩, ?_⟩
          · rw [List.length_drop, HNN.out]; congr 1; omega
          · rw [List.length_drop, HNN.out]; omega
          · rw [HNN.out]; exact HN'.out.drop_run r
          · exact (List.Pairwise.tail HP'.out).drop
          · simp [lenOf]; omega
theorem text_any (s : Ws) (w : World) (hs : s.Ok) (hT : Tab w) :
    Calls Tryd.prog 51 #[s.v] w fun e w' => e = .returned (.string ⟨(textW s).toArray⟩) ∧ Below w.heap.size w w' := by
  by_cases hf : s = Ws.full
  · exact text_full s w hf
  · exact text_some s w hs hT hf
end Go.Proofs.YtdkdgbiagjflgaaDoor
/- The document's Text. -/
namespace Go.Proofs.YtdkdgbiagjflgaaDoor
open Go.RowKit
def refTxt (s : Ws) (w : World) (o i : Value) (wr : World) : Prop := ∃ (k : Nat) (pre : List UInt8), k ≤ 256 ∧ i = .int .i64 k ∧ o = .string ⟨(91 :: pre).toArray⟩ ∧ pre ++ textOf (fromB s k) = textOf (bytesN s) ∧ Box wr w.heap.size s ∧ Below w.heap.size w wr
def toInv (s : Ws) (k : Nat) (w : World) (v : Value) (wr : World) : Prop := ∃ n t : Nat, k + n ≤ 255 ∧ t = k + n ∧ v = .int .i64 t ∧ (∀ j, j ≤ n → s.has (k + j) = true) ∧ Box wr w.heap.size s ∧ Below w.heap.size w wr
set_option maxHeartbeats 2000000 in
set_option maxRecDepth 100000 in
theorem refText_any (s : Ws) (w : World) (hs : s.Ok) :
    Calls Tryd.prog 32 #[s.v] w fun e w' => e = .returned (.string ⟨(textW s).toArray⟩) ∧ Below w.heap.size w w' := by
  obtain ⟨a, b, c, d⟩ := s
  unfold Ws.v
  go_enter Tryd.func32, Tryd.ntmps32
  go_wp2_with fail
  refine (refBytes_any ⟨a, b, c, d⟩ _ hs).mono ?_
  rintro e w2 ⟨al, cap, rfl, hcap, hb2, hat⟩
  have hN := natsAt_of hat (bytesN_lt _)
  have hx0 : Box w2 w.heap.size ⟨a, b, c, d⟩ := (Box.new4 w a b c d).below hb2 (by simp)
  have hbw : Below w.heap.size w w2 := ((Below.refl _ w).alloc (Nat.le_refl _) _).trans (hb2.mono (by simp))
  have hmax := bytesN_length_le ⟨a, b, c, d⟩
  rw [u8s_length] at hcap ⊢
  clear hb2 hat
  by_cases h256 : (bytesN ⟨a, b, c, d⟩).length = 256
  · have ht : textW ⟨a, b, c, d⟩ = [46] := by unfold textW; rw [if_pos h256]
    have HTX := Lib.hid ht
    have d0 : (((bytesN ⟨a, b, c, d⟩).length : Int) == 256) = true := by simp; omega
    clear ht h256
    generalize (bytesN ⟨a, b, c, d⟩).length = L at *
    go_wp2
    go_ret
    exact ⟨by rw [HTX.out]; rfl, hbw⟩
  have d0 : (((bytesN ⟨a, b, c, d⟩).length : Int) == 256) = false := by simp; omega
  by_cases h1 : (bytesN ⟨a, b, c, d⟩).length = 1
  · obtain ⟨x, hL⟩ := List.length_eq_one_iff.1 h1
    have ht : textW ⟨a, b, c, d⟩ = signL x := by
      unfold textW; rw [hL]; simp
    have HTX := Lib.hid ht
    rw [hL] at hN hcap d0 ⊢
    clear ht hL
    obtain ⟨b', off, hab, hblt, hc⟩ : ∃ b off, al = some ⟨b, off, none⟩ ∧ b < w2.heap.size ∧ ∀ i (h : i < [x].length), w2.cell? ⟨b, off + i, none⟩ = some (.int .u8 ([x][i] : Nat)) := by
      rcases hN.2.2 with h | h
      · simp at h
      · exact h
    subst hab
    have c0 : w2.cell? ⟨b', off, none⟩ = some (.int .u8 x) := by have := hc 0 (by simp); simpa using this
    have hx : x < 256 := hN.1 x (by simp)
    clear hc hN h1 h256
    simp only [List.length_singleton] at *
    go_wp2_with fail
    refine (refSign_any x _ hx).mono ?_
    rintro e w3 ⟨rfl, hb3⟩
    go_wp2
    go_ret
    exact ⟨by rw [HTX.out]; rfl, hbw.trans (hb3.mono hbw.size)⟩
  have d1 : (((bytesN ⟨a, b, c, d⟩).length : Int) == 1) = false := by simp; omega
  have ht : textW ⟨a, b, c, d⟩ = 91 :: (textOf (bytesN ⟨a, b, c, d⟩) ++ [93]) := by
    unfold textW; rw [if_neg h256, if_neg h1]
  have HTX := Lib.hid ht
  clear ht h256 h1 hN
  obtain ⟨LL, hLL⟩ : ∃ LL, (bytesN ⟨a, b, c, d⟩).length = LL := ⟨_, rfl⟩
  rw [hLL] at d0 d1 hcap hmax ⊢
  clear hLL
  go_wp2
  go_loopw [4, 5] (fun o i wr => refTxt ⟨a, b, c, d⟩ w o i wr) (fun _ i _ => 256 - (intOf i).toNat)
  case atStart => exact ⟨0, [], Nat.zero_le _, rfl, rfl, by rw [fromB_zero]; rfl, hx0, hbw⟩
  case round =>
    obtain ⟨k, pre, hk, rfl, rfl, hpre, hx, hb⟩ := hrel
    have HPR := Lib.hid hpre
    clear hpre
    by_cases hlt : k < 256
    · have hlt' : (k : Int) < 256 := by omega
      obtain ⟨⟨c0, c1, c2, c3⟩, -⟩ := hx.all
      by_cases hh : Ws.has ⟨a, b, c, d⟩ k = true
      · have HH := Lib.hid hh
        clear hh
        go_wp2_with fail
        refine (refHas_any ⟨a, b, c, d⟩ k _ hs hlt).mono ?_
        rw [HH.out]
        rintro e w3 ⟨rfl, hb3⟩
        replace hx := hx.below hb3 hx.lt
        replace hb := hb.trans (hb3.mono hb.size)
        clear c0 c1 c2 c3 hb3
        go_wp2
        go_loopw [6] (fun v wr => toInv ⟨a, b, c, d⟩ k w v wr) (fun v _ => 256 - (intOf v).toNat)
        case atStart => exact ⟨0, k, by omega, rfl, rfl, fun j hj => (by rw [show j = 0 from by omega]; exact HH.out), hx, hb⟩
        case round =>
          clear hx hb
          obtain ⟨n, t, hn, ht, rfl, hal, hx, hb⟩ := hrel
          have HAL := Lib.hid hal
          have HTT := Lib.hid ht
          have ht1 : t ≤ k + n := by omega
          have ht2 : k + n ≤ t := by omega
          clear hal ht
          obtain ⟨⟨c0, c1, c2, c3⟩, -⟩ := hx.all
          by_cases h255 : t < 255
          · have g0 : decide ((t : Int) < (255 : Int)) = true := by simp; omega
            by_cases hh2 : Ws.has ⟨a, b, c, d⟩ (t + 1) = true
            · have HH2 := Lib.hid hh2
              clear hh2
              go_wp2_with fail
              refine (refHas_any ⟨a, b, c, d⟩ (t + 1) _ hs (by omega)).mono ?_
              rw [HH2.out]
              rintro e w3 ⟨rfl, hb3⟩
              go_wp2
              refine ⟨⟨n + 1, t + 1, by omega, by rw [HTT.out]; omega, by go_num, ?_, hx.below hb3 hx.lt, hb.trans (hb3.mono hb.size)⟩, by simp [intOf]; omega⟩
              intro j hj
              by_cases e : j = n + 1
              · subst e
                have : k + (n + 1) = t + 1 := by rw [HTT.out]; omega
                rw [this]; exact HH2.out
              · exact HAL.out j (by omega)
            · have hh2' : Ws.has ⟨a, b, c, d⟩ (t + 1) = false := by simpa using hh2
              have HST : k + n + 1 < 256 → Ws.has ⟨a, b, c, d⟩ (k + n + 1) = false := fun _ => by rw [← HTT.out]; exact hh2'
              have HH2 := Lib.hid hh2'
              clear hh2 hh2'
              go_wp2_with fail
              refine (refHas_any ⟨a, b, c, d⟩ (t + 1) _ hs (by omega)).mono ?_
              rw [HH2.out]
              rintro e w3 ⟨rfl, hb3⟩
              replace hx := hx.below hb3 hx.lt
              replace hb := hb.trans (hb3.mono hb.size)
              clear c0 c1 c2 c3 hb3
              have hrun := text_run (s := ⟨a, b, c, d⟩) (b := k) (n := n) (by omega) HAL.out HST
              have hbnd : (pre).length + (textOf (fromB ⟨a, b, c, d⟩ k)).length ≤ 2000 := by
                have h1 := congrArg List.length HPR.out
                have h2 := textOf_length (bytesN ⟨a, b, c, d⟩)
                have h3 := bytesN_length_le ⟨a, b, c, d⟩
                simp at h1; omega
              have hsl := signL_length k
              have hsl2 := signL_length t
              have HRUN := Lib.hid hrun
              clear hrun HST
              obtain ⟨P, hP⟩ : ∃ P : List UInt8, P = 91 :: pre := ⟨_, rfl⟩
              have hPl : P.length ≤ 2001 := by rw [hP]; simp; omega
              rw [← hP]
              have HPP := Lib.hid hP
              clear hP
              go_wp2_with fail
              refine (refSign_any k _ (by omega)).mono ?_
              rintro e w3 ⟨rfl, hb3⟩
              have hx3 := hx.below hb3 hx.lt
              have hbw3 := hb.trans (hb3.mono hb.size)
              clear hb3 hx hb
              generalize hX : signL k = X at *
              have HX := Lib.hid hX
              clear hX
              have m1 : ¬ (9223372036854775807 < P.length + X.length) := by omega
              have m2 : ¬ (9223372036854775807 < P.length + X.length + 1) := by omega
              by_cases hn0 : n = 0
              · have g1 : decide ((k : Int) + 1 < (t : Int)) = false := by simp; omega
                have g2 : decide ((k : Int) < (t : Int)) = false := by simp; omega
                have g3 : ¬ (k : Int) + 1 < (t : Int) := by omega
                have g4 : ¬ (k : Int) < (t : Int) := by omega
                go_wp2
                refine ⟨⟨k + n + 1, pre ++ X, by omega, ?_, ?_, ?_, hx3, hbw3⟩, by simp [intOf]; omega⟩
                · rw [HTT.out]; go_num
                · rw [HPP.out]; congr 1
                · rw [← HPR.out, HRUN.out, hn0]
                  simp [segL, HX.out, List.append_assoc]
              · by_cases hn1 : n = 1
                · have g1 : decide ((k : Int) + 1 < (t : Int)) = false := by simp; omega
                  have g2 : decide ((k : Int) < (t : Int)) = true := by simp; omega
                  have g3 : ¬ (k : Int) + 1 < (t : Int) := by omega
                  have g4 : (k : Int) < (t : Int) := by omega
                  go_wp2_with fail
                  refine (refSign_any t _ (by omega)).mono ?_
                  rintro e w4 ⟨rfl, hb4⟩
                  have hx4 := hx3.below hb4 hx3.lt
                  have hbw4 := hbw3.trans (hb4.mono hbw3.size)
                  clear hb4
                  generalize hY : signL t = Y at *
                  have HY := Lib.hid hY
                  clear hY
                  have m3 : ¬ (9223372036854775807 < P.length + X.length + Y.length) := by omega
                  go_wp2
                  refine ⟨⟨k + n + 1, pre ++ (X ++ Y), by omega, ?_, ?_, ?_, hx4, hbw4⟩, by simp [intOf]; omega⟩
                  · rw [HTT.out]; go_num
                  · rw [HPP.out]; congr 1; apply ByteArray.ext; simp [ByteArray.data_append]
                  · rw [← HPR.out, HRUN.out, ← HX.out, ← HY.out, HTT.out, hn1]
                    simp [segL, List.append_assoc]
                · have g1 : decide ((k : Int) + 1 < (t : Int)) = true := by simp; omega
                  have g2 : decide ((k : Int) < (t : Int)) = true := by simp; omega
                  have g3 : (k : Int) + 1 < (t : Int) := by omega
                  have g4 : (k : Int) < (t : Int) := by omega
                  go_wp2_with fail
                  refine (refSign_any t _ (by omega)).mono ?_
                  rintro e w4 ⟨rfl, hb4⟩
                  have hx4 := hx3.below hb4 hx3.lt
                  have hbw4 := hbw3.trans (hb4.mono hbw3.size)
                  clear hb4
                  generalize hY : signL t = Y at *
                  have HY := Lib.hid hY
                  clear hY
                  have m3 : ¬ (9223372036854775807 < P.length + X.length + 1 + Y.length) := by omega
                  go_wp2
                  refine ⟨⟨k + n + 1, pre ++ (X ++ 45 :: Y), by omega, ?_, ?_, ?_, hx4, hbw4⟩, by simp [intOf]; omega⟩
                  · rw [HTT.out]; go_num
                  · rw [HPP.out]; congr 1; apply ByteArray.ext; simp [ByteArray.data_append]
                  · have e3 : 3 ≤ 1 + n := by omega
                    have e4 : k + (1 + n) - 1 = t := by rw [HTT.out]; omega
                    rw [← HPR.out, HRUN.out, segL, if_pos e3, e4, HX.out, HY.out]
                    simp [List.append_assoc]
          · have g0 : decide ((t : Int) < (255 : Int)) = false := by simp; omega
            have HST : k + n + 1 < 256 → Ws.has ⟨a, b, c, d⟩ (k + n + 1) = false := fun h => by omega
            clear c0 c1 c2 c3
            have hrun := text_run (s := ⟨a, b, c, d⟩) (b := k) (n := n) (by omega) HAL.out HST
            have hbnd : (pre).length + (textOf (fromB ⟨a, b, c, d⟩ k)).length ≤ 2000 := by
              have h1 := congrArg List.length HPR.out
              have h2 := textOf_length (bytesN ⟨a, b, c, d⟩)
              have h3 := bytesN_length_le ⟨a, b, c, d⟩
              simp at h1; omega
            have hsl := signL_length k
            have hsl2 := signL_length t
            have HRUN := Lib.hid hrun
            clear hrun HST
            obtain ⟨P, hP⟩ : ∃ P : List UInt8, P = 91 :: pre := ⟨_, rfl⟩
            have hPl : P.length ≤ 2001 := by rw [hP]; simp; omega
            rw [← hP]
            have HPP := Lib.hid hP
            clear hP
            go_wp2_with fail
            refine (refSign_any k _ (by omega)).mono ?_
            rintro e w3 ⟨rfl, hb3⟩
            have hx3 := hx.below hb3 hx.lt
            have hbw3 := hb.trans (hb3.mono hb.size)
            clear hb3 hx hb
            generalize hX : signL k = X at *
            have HX := Lib.hid hX
            clear hX
            have m1 : ¬ (9223372036854775807 < P.length + X.length) := by omega
            have m2 : ¬ (9223372036854775807 < P.length + X.length + 1) := by omega
            by_cases hn0 : n = 0
            · have g1 : decide ((k : Int) + 1 < (t : Int)) = false := by simp; omega
              have g2 : decide ((k : Int) < (t : Int)) = false := by simp; omega
              have g3 : ¬ (k : Int) + 1 < (t : Int) := by omega
              have g4 : ¬ (k : Int) < (t : Int) := by omega
              go_wp2
              refine ⟨⟨k + n + 1, pre ++ X, by omega, ?_, ?_, ?_, hx3, hbw3⟩, by simp [intOf]; omega⟩
              · rw [HTT.out]; go_num
              · rw [HPP.out]; congr 1
              · rw [← HPR.out, HRUN.out, hn0]
                simp [segL, HX.out, List.append_assoc]
            · by_cases hn1 : n = 1
              · have g1 : decide ((k : Int) + 1 < (t : Int)) = false := by simp; omega
                have g2 : decide ((k : Int) < (t : Int)) = true := by simp; omega
                have g3 : ¬ (k : Int) + 1 < (t : Int) := by omega
                have g4 : (k : Int) < (t : Int) := by omega
                go_wp2_with fail
                refine (refSign_any t _ (by omega)).mono ?_
                rintro e w4 ⟨rfl, hb4⟩
                have hx4 := hx3.below hb4 hx3.lt
                have hbw4 := hbw3.trans (hb4.mono hbw3.size)
                clear hb4
                generalize hY : signL t = Y at *
                have HY := Lib.hid hY
                clear hY
                have m3 : ¬ (9223372036854775807 < P.length + X.length + Y.length) := by omega
                go_wp2
                refine ⟨⟨k + n + 1, pre ++ (X ++ Y), by omega, ?_, ?_, ?_, hx4, hbw4⟩, by simp [intOf]; omega⟩
                · rw [HTT.out]; go_num
                · rw [HPP.out]; congr 1; apply ByteArray.ext; simp [ByteArray.data_append]
                · rw [← HPR.out, HRUN.out, ← HX.out, ← HY.out, HTT.out, hn1]
                  simp [segL, List.append_assoc]
              · have g1 : decide ((k : Int) + 1 < (t : Int)) = true := by simp; omega
                have g2 : decide ((k : Int) < (t : Int)) = true := by simp; omega
                have g3 : (k : Int) + 1 < (t : Int) := by omega
                have g4 : (k : Int) < (t : Int) := by omega
                go_wp2_with fail
                refine (refSign_any t _ (by omega)).mono ?_
                rintro e w4 ⟨rfl, hb4⟩
                have hx4 := hx3.below hb4 hx3.lt
                have hbw4 := hbw3.trans (hb4.mono hbw3.size)
                clear hb4
                generalize hY : signL t = Y at *
                have HY := Lib.hid hY
                clear hY
                have m3 : ¬ (9223372036854775807 < P.length + X.length + 1 + Y.length) := by omega
                go_wp2
                refine ⟨⟨k + n + 1, pre ++ (X ++ 45 :: Y), by omega, ?_, ?_, ?_, hx4, hbw4⟩, by simp [intOf]; omega⟩
                · rw [HTT.out]; go_num
                · rw [HPP.out]; congr 1; apply ByteArray.ext; simp [ByteArray.data_append]
                · have e3 : 3 ≤ 1 + n := by omega
                  have e4 : k + (1 + n) - 1 = t := by rw [HTT.out]; omega
                  rw [← HPR.out, HRUN.out, segL, if_pos e3, e4, HX.out, HY.out]
                  simp [List.append_assoc]
      · have hh' : Ws.has ⟨a, b, c, d⟩ k = false := by simpa using hh
        have HH := Lib.hid hh'
        clear hh hh'
        go_wp2_with fail
        refine (refHas_any ⟨a, b, c, d⟩ k _ hs hlt).mono ?_
        rw [HH.out]
        rintro e w3 ⟨rfl, hb3⟩
        go_wp2
        exact ⟨⟨k + 1, pre, by omega, by go_num, rfl, by rw [← fromB_no hlt HH.out]; exact HPR.out, hx.below hb3 hx.lt, hb.trans (hb3.mono hb.size)⟩, by simp [intOf]; omega⟩
    · obtain rfl : k = 256 := by omega
      have hpe : pre = textOf (bytesN ⟨a, b, c, d⟩) := by rw [← HPR.out, fromB_end, textOf_nil, List.append_nil]
      have hpl : pre.length ≤ 2000 := by
        have h2 := textOf_length (bytesN ⟨a, b, c, d⟩)
        have h3 := bytesN_length_le ⟨a, b, c, d⟩
        rw [hpe]; omega
      have HPE := Lib.hid hpe
      clear hpe
      obtain ⟨P, hP⟩ : ∃ P : List UInt8, P = 91 :: pre := ⟨_, rfl⟩
      have hPl : P.length ≤ 2001 := by rw [hP]; simp; omega
      rw [← hP]
      have HPP := Lib.hid hP
      clear hP
      have m1 : ¬ (9223372036854775807 < P.length + 1) := by omega
      go_wp2
      go_ret
      refine ⟨?_, hb⟩
      rw [HTX.out, ← HPE.out]
      show Ending.returned (.string (ByteArray.mk P.toArray ++ ByteArray.mk #[93])) = _
      rw [HPP.out]
      congr 2
end Go.Proofs.YtdkdgbiagjflgaaDoor
/- quillref05's round and Of. -/
namespace Go.Proofs.YtdkdgbiagjflgaaDoor
open Go.RowKit
theorem bytes_app (a b : List UInt8) : (⟨a.toArray⟩ : ByteArray) ++ ⟨b.toArray⟩ = ⟨(a ++ b).toArray⟩ := by
  apply ByteArray.ext
  simp
set_option maxHeartbeats 1000000 in
theorem round_any (s : List UInt8) (b : Bool) (w : World) (hs : s.length ≤ 4000000000) :
    Calls Tryd.prog 33 #[.string ⟨s.toArray⟩, .bool b] w fun e w' => e = .returned (.string ⟨(roundL s b).toArray⟩) ∧ w' = w := by
  cases b with
  | true =>
    go_enter Tryd.func33, Tryd.ntmps33
    go_wp2
    go_ret
    refine ⟨?_, rfl⟩
    show Ending.returned (.string (ByteArray.mk [40].toArray ++ ByteArray.mk s.toArray ++ ByteArray.mk [41].toArray)) = _
    rw [bytes_app, bytes_app]; rfl
  | false =>
    go_enter Tryd.func33, Tryd.ntmps33
    go_wp2
    go_ret
    exact ⟨rfl, rfl⟩
theorem rx_shape (a : Ex) : ∃ k s ks, a.rx = .node k s ks ∧ ((k : Int) == 4) = a.isSeq ∧ ((k : Int) == 5) = a.isAlt := by
  cases a <;> exact ⟨_, _, _, rfl, rfl, rfl⟩
def OfAt (ok : Nat → Prop) (N : Nat) : Prop := ∀ (e : Ex), e.size ≤ N → ∀ (v : Value) (w : World), e.Wf → e.size ≤ 1000000 → ReAt ok w v e.rx →
    Calls Tryd.prog 17 #[v] w fun x w' => x = .returned (.string ⟨e.text.toArray⟩) ∧ Below w.heap.size w w'
set_option maxHeartbeats 2000000 in
theorem of_star {ok : Nat → Prop} {N : Nat} (ih : OfAt ok N) (a : Ex) (hN : a.size ≤ N) (v : Value) (w : World) (wa : a.Wf) (hs : a.size ≤ 1000000) (hR : ReAt ok w v (Ex.star a).rx) :
    Calls Tryd.prog 17 #[v] w fun x w' => x = .returned (.string ⟨(Ex.star a).text.toArray⟩) ∧ Below w.heap.size w w' := by
  obtain ⟨_, _, al, cap, rfl, hcap, hmax, hrow⟩ := hR
  obtain ⟨b, off, hab, hblt, hnode⟩ := RowAt.kid hrow (i := 0) (by simp)
  subst hab
  simp only [List.getElem_cons_zero, Nat.zero_mul, Nat.add_zero] at hnode
  rw [text_star]
  have hlen := text_length a
  obtain ⟨ka, sa, ksa, hrx, h4, h5⟩ := rx_shape a
  have hit : a.item = roundL a.text (a.isSeq || a.isAlt) := rfl
  rw [hit]
  rw [hrx] at hnode
  obtain ⟨ta, tb, tc, td⟩ := sa
  obtain ⟨bl, bcap, ⟨c0, c1, c2, c3, c4, c5⟩, hre⟩ := hnode.read
  simp only at c0 c1 c2 c3 c4 c5
  rw [← hrx] at hre
  have KI := Lib.hid fun W (h : Below w.heap.size w W) => ih a hN _ W wa hs (hre.below h)
  generalize a.text = T at *
  generalize a.isSeq = q4 at *
  generalize a.isAlt = q5 at *
  have KR := Lib.hid fun W => round_any T (q4 || q5) W (by omega)
  have hl1 : (roundL T (q4 || q5)).length ≤ 4000000000 := by have := round_length T (q4 || q5); omega
  generalize roundL T (q4 || q5) = X at *
  clear hnode hre hrow ih hrx hit
  simp only [List.length_cons, List.length_nil, Nat.zero_add] at *
  go_enter Tryd.func17, Tryd.ntmps17
  go_wp2_with fail
  refine (KI.out _ (((Below.refl _ w).alloc (Nat.le_refl _) _).alloc (by simp) _)).mono ?_
  rintro e w1 ⟨rfl, hb1⟩
  have hbw : Below w.heap.size w w1 := (((Below.refl _ w).alloc (Nat.le_refl _) _).alloc (by simp) _).trans (hb1.mono (by simp; omega))
  have x0 : w1.cell? ⟨w.heap.size, 0, none⟩ = some (.int .u8 6) := by
    rw [Lib.cell_of_heap ((hb1.block _ (by simp; omega)).trans ((Below.heap_alloc _ _ _ (by simp)).trans (blk_new w _)))]; rfl
  have y0 : w1.cell? ⟨w.heap.size + 1, 0, none⟩ = some (.int .u8 ka) := by
    rw [Lib.cell_of_heap ((hb1.block _ (by simp)).trans (blk_at _ _ (by simp)))]; rfl
  clear hb1 c0 c1 c2 c3 c4 c5 KI
  have m1 : ¬ (9223372036854775807 < X.length + 1) := by omega
  have fin : Ending.returned (.string (ByteArray.mk X.toArray ++ ByteArray.mk [42].toArray)) = Ending.returned (.string ⟨(X ++ [42]).toArray⟩) := by rw [bytes_app]
  have FIN := Lib.hid fin
  clear fin
  cases q4 with
  | true =>
    simp only [Bool.true_or] at KR
    go_wp2_with fail
    refine (KR.out _).mono ?_
    rintro e w2 ⟨rfl, rfl⟩
    clear x0 y0
    go_wp2
    go_ret
    exact ⟨FIN.out, hbw⟩
  | false =>
    simp only [Bool.false_or] at KR
    cases q5 with
    | true =>
      go_wp2_with fail
      refine (KR.out _).mono ?_
      rintro e w2 ⟨rfl, rfl⟩
      clear x0 y0
      go_wp2
      go_ret
      exact ⟨FIN.out, hbw⟩
    | false =>
      go_wp2_with fail
      refine (KR.out _).mono ?_
      rintro e w2 ⟨rfl, rfl⟩
      clear x0 y0
      go_wp2
      go_ret
      exact ⟨FIN.out, hbw⟩
set_option maxHeartbeats 4000000 in
theorem of_alt {ok : Nat → Prop} {N : Nat} (ih : OfAt ok N) (a c : Ex) (hN : a.size ≤ N) (hN' : c.size ≤ N) (v : Value) (w : World) (wa : a.Wf) (wc : c.Wf) (hs : a.size ≤ 1000000) (hs' : c.size ≤ 1000000) (hR : ReAt ok w v (Ex.alt a c).rx) :
    Calls Tryd.prog 17 #[v] w fun x w' => x = .returned (.string ⟨(Ex.alt a c).text.toArray⟩) ∧ Below w.heap.size w w' := by
  obtain ⟨_, _, al, cap, rfl, hcap, hmax, hrow⟩ := hR
  obtain ⟨b, off, hab, hblt, hnode⟩ := RowAt.kid hrow (i := 0) (by simp)
  obtain ⟨b', off', hab', hblt', hnode'⟩ := RowAt.kid hrow (i := 1) (by simp)
  subst hab
  simp at hab'
  obtain ⟨rfl, rfl⟩ := hab'
  simp only [List.getElem_cons_zero, List.getElem_cons_succ, Nat.zero_mul, Nat.add_zero, Nat.one_mul] at hnode hnode'
  rw [text_alt]
  have hlen := text_length a
  have hlen' := text_length c
  obtain ⟨ka, sa, ksa, hrx, _, h5⟩ := rx_shape a
  obtain ⟨kc, sc, ksc, hrxc, _, _⟩ := rx_shape c
  have hit : a.part = roundL a.text a.isAlt := rfl
  rw [hit]
  rw [hrx] at hnode
  rw [hrxc] at hnode'
  obtain ⟨ta, tb, tc, td⟩ := sa
  obtain ⟨ta', tb', tc', td'⟩ := sc
  obtain ⟨bl, bcap, ⟨c0, c1, c2, c3, c4, c5⟩, hre⟩ := hnode.read
  obtain ⟨bl', bcap', hcc, hre'⟩ := hnode'.read
  simp only at c0 c1 c2 c3 c4 c5 hcc
  rw [← hrx] at hre
  rw [← hrxc] at hre'
  have KI := Lib.hid fun W (h : Below w.heap.size w W) => ih a hN _ W wa hs (hre.below h)
  have KJ := Lib.hid fun W (h : Below w.heap.size w W) => ih c hN' _ W wc hs' (hre'.below h)
  have HC := Lib.hid fun W (h : Below w.heap.size w W) => show (W.cell? ⟨b, off + 6, none⟩ = some (.int .u8 kc) ∧ W.cell? ⟨b, off + 6 + 1, none⟩ = some (.int .u64 ta') ∧ W.cell? ⟨b, off + 6 + 2, none⟩ = some (.int .u64 tb') ∧ W.cell? ⟨b, off + 6 + 3, none⟩ = some (.int .u64 tc') ∧ W.cell? ⟨b, off + 6 + 4, none⟩ = some (.int .u64 td') ∧ W.cell? ⟨b, off + 6 + 5, none⟩ = some (.slice bl' ksc.length bcap')) from by
    obtain ⟨d0, d1, d2, d3, d4, d5⟩ := hcc
    have e := fun o => h.cell (p := ⟨b, o, none⟩) hblt
    exact ⟨by rw [e]; exact d0, by rw [e]; exact d1, by rw [e]; exact d2, by rw [e]; exact d3, by rw [e]; exact d4, by rw [e]; exact d5⟩
  generalize a.text = T at *
  generalize c.text = U at *
  generalize a.isAlt = q5 at *
  have KR := Lib.hid fun W => round_any T q5 W (by omega)
  have hl1 : (roundL T q5).length ≤ 4000000000 := by have := round_length T q5; omega
  generalize roundL T q5 = X at *
  clear hnode hnode' hre hre' hrow ih hrx hrxc hit hcc
  simp only [List.length_cons, List.length_nil, Nat.zero_add] at *
  go_enter Tryd.func17, Tryd.ntmps17
  go_wp2_with fail
  refine (KI.out _ (((Below.refl _ w).alloc (Nat.le_refl _) _).alloc (by simp) _)).mono ?_
  rintro e w1 ⟨rfl, hb1⟩
  have hbw : Below w.heap.size w w1 := (((Below.refl _ w).alloc (Nat.le_refl _) _).alloc (by simp) _).trans (hb1.mono (by simp; omega))
  have hx := (hb1.block w.heap.size (by simp; omega)).trans ((Below.heap_alloc _ _ _ (by simp)).trans (blk_new w _))
  have hy := (hb1.block (w.heap.size + 1) (by simp)).trans (blk_at _ _ (by simp))
  obtain ⟨x0, x1, x2, x3, x4, x5, -⟩ := cellsR hx
  obtain ⟨y0, y1, y2, y3, y4, y5, -⟩ := cellsR hy
  obtain ⟨d0, d1, d2, d3, d4, d5⟩ := HC.out _ hbw
  clear c0 c1 c2 c3 c4 c5 KI
  have hgl : w.heap.size + 1 < w1.heap.size := (Array.getElem?_eq_some_iff.1 hy).1
  have hgl0 : w.heap.size < w1.heap.size := by omega
  obtain ⟨w2, hw2⟩ : ∃ w2, w2 = w1.alloc (.cells #[.int .u8 kc, .int .u64 ta', .int .u64 tb', .int .u64 tc', .int .u64 td', .slice bl' ksc.length bcap'] 30) := ⟨_, rfl⟩
  have hb2 : Below w1.heap.size w1 w2 := by rw [hw2]; exact (Below.refl _ w1).alloc (Nat.le_refl _) _
  have hz : w2.heap[w1.heap.size]? = some (.cells #[.int .u8 kc, .int .u64 ta', .int .u64 tb', .int .u64 tc', .int .u64 td', .slice bl' ksc.length bcap'] 30) := by rw [hw2]; exact blk_new w1 _
  have hy2 := (hb2.cell (p := ⟨w.heap.size + 1, 0, none⟩) hgl).trans y0
  have hzl : w1.heap.size < w2.heap.size := (Array.getElem?_eq_some_iff.1 hz).1
  obtain ⟨z0, z1, z2, z3, z4, z5, -⟩ := cellsR hz
  have u0 : ∀ p : Bel w2, p.x.cell? ⟨w.heap.size + 1, 0, none⟩ = some (.int .u8 ka) := bel_cell (show w.heap.size + 1 < w2.heap.size by omega) hy2
  have v0 : ∀ p : Bel w2, p.x.cell? ⟨w1.heap.size, 0, none⟩ = some (.int .u8 kc) := bel_cell hzl z0
  have v1 : ∀ p : Bel w2, p.x.cell? ⟨w1.heap.size, 1, none⟩ = some (.int .u64 ta') := bel_cell hzl z1
  have v2 : ∀ p : Bel w2, p.x.cell? ⟨w1.heap.size, 2, none⟩ = some (.int .u64 tb') := bel_cell hzl z2
  have v3 : ∀ p : Bel w2, p.x.cell? ⟨w1.heap.size, 3, none⟩ = some (.int .u64 tc') := bel_cell hzl z3
  have v4 : ∀ p : Bel w2, p.x.cell? ⟨w1.heap.size, 4, none⟩ = some (.int .u64 td') := bel_cell hzl z4
  have v5 : ∀ p : Bel w2, p.x.cell? ⟨w1.heap.size, 5, none⟩ = some (.slice bl' ksc.length bcap') := bel_cell hzl z5
  have hbw2 : Below w.heap.size w w2 := hbw.trans (hb2.mono hbw.size)
  have KJ2 := Lib.hid fun W (h : Below w2.heap.size w2 W) => KJ.out W (hbw2.trans (h.mono hbw2.size))
  have HW2 := Lib.hid hw2
  clear hb2 hz hy2 KJ hw2 z0 z1 z2 z3 z4 z5
  clear hb1 hx hy
  have m1 : ¬ (9223372036854775807 < X.length + 1) := by omega
  have m2 : ¬ (9223372036854775807 < X.length + 1 + U.length) := by omega
  have fin : Ending.returned (.string (ByteArray.mk X.toArray ++ ByteArray.mk [124].toArray ++ ByteArray.mk U.toArray)) = Ending.returned (.string ⟨(X ++ 124 :: U).toArray⟩) := by rw [bytes_app, bytes_app]; simp
  have FIN := Lib.hid fin
  clear fin
  go_wp2_with fail
  rw [← HW2.out]
  clear x0 x1 x2 x3 x4 x5 y0 y1 y2 y3 y4 y5 d0 d1 d2 d3 d4 d5 HW2 hbw
  have hne := bel_ne w2
  refine wp_region_bel (by kernel_rfl) (by kernel_rfl) ?_
  repeat (quiet_step (first | (go_at_call 33; with_reducible exact bel_same (KR.out _)) | (go_at_call 17; with_reducible exact bel_of (KJ2.out _ (Bel.h _)))))
  refine wpQuiet_nil ?_
  intro _ hw'
  obtain ⟨⟨x, hbx⟩, hw''⟩ := hw'
  subst hw''
  go_wp2
  go_ret
  exact ⟨FIN.out, hbw2.trans (hbx.mono hbw2.size)⟩
set_option maxHeartbeats 4000000 in
theorem of_seq {ok : Nat → Prop} {N : Nat} (ih : OfAt ok N) (a c : Ex) (hN : a.size ≤ N) (hN' : c.size ≤ N) (v : Value) (w : World) (wa : a.Wf) (wc : c.Wf) (hs : a.size ≤ 1000000) (hs' : c.size ≤ 1000000) (hR : ReAt ok w v (Ex.seq a c).rx) :
    Calls Tryd.prog 17 #[v] w fun x w' => x = .returned (.string ⟨(Ex.seq a c).text.toArray⟩) ∧ Below w.heap.size w w' := by
  obtain ⟨_, _, al, cap, rfl, hcap, hmax, hrow⟩ := hR
  obtain ⟨b, off, hab, hblt, hnode⟩ := RowAt.kid hrow (i := 0) (by simp)
  obtain ⟨b', off', hab', hblt', hnode'⟩ := RowAt.kid hrow (i := 1) (by simp)
  subst hab
  simp at hab'
  obtain ⟨rfl, rfl⟩ := hab'
  simp only [List.getElem_cons_zero, List.getElem_cons_succ, Nat.zero_mul, Nat.add_zero, Nat.one_mul] at hnode hnode'
  rw [text_seq]
  have hlen := text_length a
  have hlen' := text_length c
  obtain ⟨ka, sa, ksa, hrx, h4, h5⟩ := rx_shape a
  obtain ⟨kc, sc, ksc, hrxc, _, hc5⟩ := rx_shape c
  have hit : a.item = roundL a.text (a.isSeq || a.isAlt) := rfl
  have hit' : c.part = roundL c.text c.isAlt := rfl
  rw [hit, hit']
  rw [hrx] at hnode
  rw [hrxc] at hnode'
  obtain ⟨ta, tb, tc, td⟩ := sa
  obtain ⟨ta', tb', tc', td'⟩ := sc
  obtain ⟨bl, bcap, ⟨c0, c1, c2, c3, c4, c5⟩, hre⟩ := hnode.read
  obtain ⟨bl', bcap', hcc, hre'⟩ := hnode'.read
  simp only at c0 c1 c2 c3 c4 c5 hcc
  rw [← hrx] at hre
  rw [← hrxc] at hre'
  have KI := Lib.hid fun W (h : Below w.heap.size w W) => ih a hN _ W wa hs (hre.below h)
  have KJ := Lib.hid fun W (h : Below w.heap.size w W) => ih c hN' _ W wc hs' (hre'.below h)
  have HC := Lib.hid fun W (h : Below w.heap.size w W) => show (W.cell? ⟨b, off + 6, none⟩ = some (.int .u8 kc) ∧ W.cell? ⟨b, off + 6 + 1, none⟩ = some (.int .u64 ta') ∧ W.cell? ⟨b, off + 6 + 2, none⟩ = some (.int .u64 tb') ∧ W.cell? ⟨b, off + 6 + 3, none⟩ = some (.int .u64 tc') ∧ W.cell? ⟨b, off + 6 + 4, none⟩ = some (.int .u64 td') ∧ W.cell? ⟨b, off + 6 + 5, none⟩ = some (.slice bl' ksc.length bcap')) from by
    obtain ⟨d0, d1, d2, d3, d4, d5⟩ := hcc
    have e := fun o => h.cell (p := ⟨b, o, none⟩) hblt
    exact ⟨by rw [e]; exact d0, by rw [e]; exact d1, by rw [e]; exact d2, by rw [e]; exact d3, by rw [e]; exact d4, by rw [e]; exact d5⟩
  generalize a.text = T at *
  generalize c.text = U at *
  generalize a.isAlt = q5 at *
  generalize a.isSeq = q4 at *
  generalize c.isAlt = q6 at *
  have KR := Lib.hid fun W => round_any T (q4 || q5) W (by omega)
  have KR2 := Lib.hid fun W => round_any U q6 W (by omega)
  have hl1 : (roundL T (q4 || q5)).length ≤ 4000000000 := by have := round_length T (q4 || q5); omega
  have hl2 : (roundL U q6).length ≤ 4000000000 := by have := round_length U q6; omega
  generalize roundL T (q4 || q5) = X at *
  generalize roundL U q6 = Y at *
  clear hnode hnode' hre hre' hrow ih hrx hrxc hit hit' hcc
  simp only [List.length_cons, List.length_nil, Nat.zero_add] at *
  go_enter Tryd.func17, Tryd.ntmps17
  go_wp2_with fail
  refine (KI.out _ (((Below.refl _ w).alloc (Nat.le_refl _) _).alloc (by simp) _)).mono ?_
  rintro e w1 ⟨rfl, hb1⟩
  have hbw : Below w.heap.size w w1 := (((Below.refl _ w).alloc (Nat.le_refl _) _).alloc (by simp) _).trans (hb1.mono (by simp; omega))
  have hx := (hb1.block w.heap.size (by simp; omega)).trans ((Below.heap_alloc _ _ _ (by simp)).trans (blk_new w _))
  have hy := (hb1.block (w.heap.size + 1) (by simp)).trans (blk_at _ _ (by simp))
  obtain ⟨x0, x1, x2, x3, x4, x5, -⟩ := cellsR hx
  obtain ⟨y0, y1, y2, y3, y4, y5, -⟩ := cellsR hy
  obtain ⟨d0, d1, d2, d3, d4, d5⟩ := HC.out _ hbw
  clear c0 c1 c2 c3 c4 c5 KI
  have hgl : w.heap.size + 1 < w1.heap.size := (Array.getElem?_eq_some_iff.1 hy).1
  have hgl0 : w.heap.size < w1.heap.size := by omega
  obtain ⟨w2, hw2⟩ : ∃ w2, w2 = w1.alloc (.cells #[.int .u8 kc, .int .u64 ta', .int .u64 tb', .int .u64 tc', .int .u64 td', .slice bl' ksc.length bcap'] 30) := ⟨_, rfl⟩
  have hb2 : Below w1.heap.size w1 w2 := by rw [hw2]; exact (Below.refl _ w1).alloc (Nat.le_refl _) _
  have hz : w2.heap[w1.heap.size]? = some (.cells #[.int .u8 kc, .int .u64 ta', .int .u64 tb', .int .u64 tc', .int .u64 td', .slice bl' ksc.length bcap'] 30) := by rw [hw2]; exact blk_new w1 _
  have hy2 := (hb2.cell (p := ⟨w.heap.size + 1, 0, none⟩) hgl).trans y0
  have hzl : w1.heap.size < w2.heap.size := (Array.getElem?_eq_some_iff.1 hz).1
  obtain ⟨z0, z1, z2, z3, z4, z5, -⟩ := cellsR hz
  have u0 : ∀ p : Bel w2, p.x.cell? ⟨w.heap.size + 1, 0, none⟩ = some (.int .u8 ka) := bel_cell (show w.heap.size + 1 < w2.heap.size by omega) hy2
  have v0 : ∀ p : Bel w2, p.x.cell? ⟨w1.heap.size, 0, none⟩ = some (.int .u8 kc) := bel_cell hzl z0
  have v1 : ∀ p : Bel w2, p.x.cell? ⟨w1.heap.size, 1, none⟩ = some (.int .u64 ta') := bel_cell hzl z1
  have v2 : ∀ p : Bel w2, p.x.cell? ⟨w1.heap.size, 2, none⟩ = some (.int .u64 tb') := bel_cell hzl z2
  have v3 : ∀ p : Bel w2, p.x.cell? ⟨w1.heap.size, 3, none⟩ = some (.int .u64 tc') := bel_cell hzl z3
  have v4 : ∀ p : Bel w2, p.x.cell? ⟨w1.heap.size, 4, none⟩ = some (.int .u64 td') := bel_cell hzl z4
  have v5 : ∀ p : Bel w2, p.x.cell? ⟨w1.heap.size, 5, none⟩ = some (.slice bl' ksc.length bcap') := bel_cell hzl z5
  have hbw2 : Below w.heap.size w w2 := hbw.trans (hb2.mono hbw.size)
  have KJ2 := Lib.hid fun W (h : Below w2.heap.size w2 W) => KJ.out W (hbw2.trans (h.mono hbw2.size))
  have HW2 := Lib.hid hw2
  clear hb2 hz hy2 KJ hw2 z0 z1 z2 z3 z4 z5
  clear hb1 hx hy
  have m1 : ¬ (9223372036854775807 < X.length + Y.length) := by omega
  have fin : Ending.returned (.string (ByteArray.mk X.toArray ++ ByteArray.mk Y.toArray)) = Ending.returned (.string ⟨(X ++ Y).toArray⟩) := by rw [bytes_app]
  have FIN := Lib.hid fin
  clear fin
  go_wp2_with fail
  rw [← HW2.out]
  clear x0 x1 x2 x3 x4 x5 y0 y1 y2 y3 y4 y5 d0 d1 d2 d3 d4 d5 HW2 hbw
  cases q4 with
  | true =>
    simp only [Bool.true_or] at KR
    have hne := bel_ne w2
    refine wp_region_bel (by kernel_rfl) (by kernel_rfl) ?_
    repeat (quiet_step (first | (go_at_call 33; with_reducible exact bel_same (KR.out _)) | (go_at_call 33; with_reducible exact bel_same (KR2.out _)) | (go_at_call 17; with_reducible exact bel_of (KJ2.out _ (Bel.h _)))))
    refine wpQuiet_nil ?_
    intro _ hw'
    obtain ⟨⟨x, hbx⟩, hw''⟩ := hw'
    subst hw''
    go_wp2
    go_ret
    exact ⟨FIN.out, hbw2.trans (hbx.mono hbw2.size)⟩
  | false =>
    simp only [Bool.false_or] at KR
    have hne := bel_ne w2
    refine wp_region_bel (by kernel_rfl) (by kernel_rfl) ?_
    repeat (quiet_step (first | (go_at_call 33; with_reducible exact bel_same (KR.out _)) | (go_at_call 33; with_reducible exact bel_same (KR2.out _)) | (go_at_call 17; with_reducible exact bel_of (KJ2.out _ (Bel.h _)))))
    refine wpQuiet_nil ?_
    intro _ hw'
    obtain ⟨⟨x, hbx⟩, hw''⟩ := hw'
    subst hw''
    go_wp2
    go_ret
    exact ⟨FIN.out, hbw2.trans (hbx.mono hbw2.size)⟩
set_option maxHeartbeats 2000000 in
theorem of_any (ok : Nat → Prop) (N : Nat) : OfAt ok N := by
  induction N with
  | zero =>
    intro e he
    have : 0 < e.size := by cases e <;> simp [Ex.size] <;> omega
    omega
  | succ N ih =>
    intro e he v w we hbig hR
    cases e with
    | empty =>
      obtain ⟨_, _, al, cap, rfl, hcap, hmax, hrow⟩ := hR
      go_enter Tryd.func17, Tryd.ntmps17
      go_wp2
      go_ret
      exact ⟨rfl, (Below.refl _ w).alloc (Nat.le_refl _) _⟩
    | eps =>
      obtain ⟨_, _, al, cap, rfl, hcap, hmax, hrow⟩ := hR
      go_enter Tryd.func17, Tryd.ntmps17
      go_wp2
      go_ret
      exact ⟨rfl, (Below.refl _ w).alloc (Nat.le_refl _) _⟩
    | cls s =>
      obtain ⟨_, _, al, cap, rfl, hcap, hmax, hrow⟩ := hR
      have K := Lib.hid fun W => refText_any s W we.1
      have ht : (Ex.cls s).text = textW s := rfl
      rw [ht]
      obtain ⟨sa, sb, sc, sd⟩ := s
      generalize textW ⟨sa, sb, sc, sd⟩ = T at *
      unfold Ws.v at K
      simp only at K
      clear ht
      go_enter Tryd.func17, Tryd.ntmps17
      go_wp2_with fail
      refine (K.out _).mono ?_
      rintro e w1 ⟨rfl, hb1⟩
      have hbw : Below w.heap.size w w1 := ((Below.refl _ w).alloc (Nat.le_refl _) _).trans (hb1.mono (by simp))
      clear hb1
      go_wp2
      go_ret
      exact ⟨rfl, hbw⟩
    | seq a c =>
      have hz : (Ex.seq a c).size = 1 + a.size + c.size := rfl
      exact of_seq ih a c (by omega) (by omega) v w we.1 we.2 (by omega) (by omega) hR
    | alt a c =>
      have hz : (Ex.alt a c).size = 1 + a.size + c.size := rfl
      exact of_alt ih a c (by omega) (by omega) v w we.1 we.2 (by omega) (by omega) hR
    | star a =>
      have hz : (Ex.star a).size = 1 + a.size := rfl
      exact of_star ih a (by omega) v w we (by omega) hR
theorem refOfX {ok : Nat → Prop} (e : Ex) (v : Value) (w : World) (we : e.Wf) (hbig : e.size ≤ 1000000) (h : ReAt ok w v e.rx) :
    Calls Tryd.prog 17 #[v] w fun x w' => x = .returned (.string ⟨e.text.toArray⟩) ∧ Below w.heap.size w w' := of_any ok e.size e (Nat.le_refl _) v w we hbig h
end Go.Proofs.YtdkdgbiagjflgaaDoor
/- quillref05's Text. -/
namespace Go.Proofs.YtdkdgbiagjflgaaDoor
open Go.RowKit
theorem node_sets {ok : Nat → Prop} {w : World} (N : Nat) : ∀ (r : Rx), r.size ≤ N → ∀ (b off : Nat), NodeAt ok w b off r → r.SetsOk := by
  induction N with
  | zero => intro r h; have := r.size_pos; omega
  | succ N ih =>
    rintro ⟨k, s, ks⟩ hN b off h
    have hN' : Rx.sizes ks ≤ N := by simp [Rx.size] at hN; omega
    unfold NodeAt at h
    obtain ⟨_, hs, _, al, cap, _, _, _, h3⟩ := h
    unfold Rx.SetsOk
    refine ⟨hs, fun r hr => ?_⟩
    rcases h3 with rfl | ⟨b', off', _, _, _, h4⟩
    · cases hr
    · obtain ⟨i, hi, rfl⟩ := List.getElem_of_mem hr
      exact ih _ (Nat.le_trans (size_kid hi) hN') _ _ (nodesAt_get h4 i hi)
theorem ReAt.sets {ok : Nat → Prop} {w : World} {v : Value} {r : Rx} (h : ReAt ok w v r) : r.SetsOk := by
  obtain ⟨k, s, ks⟩ := r
  obtain ⟨_, hs, al, cap, _, _, _, h3⟩ := h
  unfold Rx.SetsOk
  refine ⟨hs, fun r hr => ?_⟩
  rcases h3 with rfl | ⟨b', off', _, _, _, h4⟩
  · cases hr
  · obtain ⟨i, hi, rfl⟩ := List.getElem_of_mem hr
    exact node_sets _ _ (Nat.le_refl _) _ _ (nodesAt_get h4 i hi)
/-- The text that the document asks for: the empty one, if it may not be. -/
noncomputable def textX (r : Rx) : List UInt8 := if mayR r = true then Classical.epsilon (fun t : List UInt8 => ∃ e : Ex, e.rx = r ∧ t = e.text) else []
theorem textX_no {r : Rx} (h : mayR r = false) : textX r = [] := by simp [textX, h]
theorem textX_yes {e : Ex} (h : mayR e.rx = true) : textX e.rx = e.text := by
  unfold textX
  rw [if_pos h]
  obtain ⟨e', h1, h2⟩ := Classical.epsilon_spec (p := fun t : List UInt8 => ∃ f : Ex, f.rx = e.rx ∧ t = f.text) ⟨e.text, e, rfl, rfl⟩
  rw [h2, Ex.rx_inj e' e h1]
theorem may_good {r : Rx} (h : mayR r = true) : goodR r = true ∧ r.size ≤ 2000 := by
  unfold mayR mayN at h
  simpa using h
theorem may_ex {ok : Nat → Prop} {w : World} {v : Value} {r : Rx} (h : ReAt ok w v r) (hm : mayR r = true) : ∃ e : Ex, e.rx = r ∧ e.Wf ∧ e.size ≤ 2000 := by
  have hg := may_good hm
  obtain ⟨e, h1, h2⟩ := ex_of_good r.size r (Nat.le_refl _) hg.1 h.sets
  exact ⟨e, h1, h2, by rw [← Ex.size_rx, h1]; exact hg.2⟩
theorem textX_length {ok : Nat → Prop} {w : World} {v : Value} {r : Rx} (h : ReAt ok w v r) : (textX r).length ≤ 4100000 := by
  by_cases hm : mayR r = true
  · obtain ⟨e, rfl, h1, h2⟩ := may_ex h hm
    rw [textX_yes hm]
    have := text_length e
    omega
  · rw [textX_no (by simpa using hm)]; simp
set_option maxHeartbeats 1000000 in
theorem refTextX {ok : Nat → Prop} (r : Rx) (v : Value) (w : World) (hbig : r.size ≤ 1000000) (h : ReAt ok w v r) :
    Calls Tryd.prog 9 #[v] w fun x w' => x = .returned (.string ⟨(textX r).toArray⟩) ∧ Below w.heap.size w w' := by
  obtain ⟨x0, x1, x2, x3, x4, xl, xn, xc, rfl⟩ := cells_re h
  have K := Lib.hid fun W (hb : Below w.heap.size w W) => refMay_any r _ W hbig (h.below hb)
  have K2 := Lib.hid fun (hm : mayR r = true) W (hb : Below w.heap.size w W) => show Calls Tryd.prog 17 #[.agg #[.int .u8 x0, .int .u64 x1, .int .u64 x2, .int .u64 x3, .int .u64 x4, .slice xl xn xc]] W fun x w' => x = .returned (.string ⟨(textX r).toArray⟩) ∧ Below W.heap.size W w' from by
    obtain ⟨e, he, h1, h2⟩ := may_ex h hm
    subst he
    rw [textX_yes hm]
    exact refOfX e _ W h1 (by omega) (h.below hb)
  have hno : mayR r = false → textX r = [] := textX_no
  have HNO := Lib.hid hno
  clear h hno
  generalize textX r = T at *
  generalize mayR r = q at *
  go_enter Tryd.func9, Tryd.ntmps9
  go_wp2_with fail
  refine (K.out _ ((Below.refl _ w).alloc (Nat.le_refl _) _)).mono ?_
  rintro e w1 ⟨rfl, hb1⟩
  have hbw : Below w.heap.size w w1 := ((Below.refl _ w).alloc (Nat.le_refl _) _).trans (hb1.mono (by simp))
  have hx := (hb1.block w.heap.size (by simp)).trans (blk_new w _)
  obtain ⟨c0, c1, c2, c3, c4, c5, -⟩ := cellsR hx
  clear hb1 hx
  cases q with
  | true =>
    go_wp2_with fail
    refine (K2.out trivial _ hbw).mono ?_
    rintro e w2 ⟨rfl, hb2⟩
    have hB := hbw.trans (hb2.mono hbw.size)
    clear hb2 hbw c0 c1 c2 c3 c4 c5
    go_wp2
    go_ret
    exact ⟨rfl, hB⟩
  | false =>
    clear c0 c1 c2 c3 c4 c5
    go_wp2
    go_ret
    exact ⟨by rw [HNO.out trivial]; rfl, hbw⟩
end Go.Proofs.YtdkdgbiagjflgaaDoor
/- What package show's functions are to answer, as the laws' walks take it; the document's example is taken so, too. -/
namespace Go.Proofs.YtdkdgbiagjflgaaDoor
open Go.RowKit
def TextC : Prop := ∀ (ok : Nat → Prop) (r : Rx) (v : Value) (w : World), Tab w → r.size ≤ 1000000 → ReAt ok w v r →
    Calls Tryd.prog 10 #[v] w fun x w' => x = .returned (.string ⟨(textX r).toArray⟩) ∧ Below w.heap.size w w'
noncomputable def linesX (l : List Rx) : List UInt8 := l.flatMap fun r => textX r ++ [10]
noncomputable def fitsX (l : List Rx) : Bool := l.all fun r => mayR r && decide ((textX r).length ≤ 65536)
def LinesC : Prop := ∀ (ok : Nat → Prop) (l : List Rx) (al : Option Addr) (cap : Nat) (w : World), Tab w → l.length ≤ 20 → (∀ r ∈ l, r.size ≤ 1000000) → RowAt ok w al l →
    Calls Tryd.prog 11 #[.slice al l.length cap] w fun x w' => x = .returned (.string ⟨(linesX l).toArray⟩) ∧ Below w.heap.size w w'
def FitsC : Prop := ∀ (ok : Nat → Prop) (l : List Rx) (al : Option Addr) (cap : Nat) (w : World), Tab w → l.length ≤ 20 → (∀ r ∈ l, r.size ≤ 1000000) → RowAt ok w al l →
    Calls Tryd.prog 12 #[.slice al l.length cap] w fun x w' => x = .returned (.bool (fitsX l)) ∧ Below w.heap.size w w'
def AwakeC : Prop := ∀ (w : World), Tab w → Calls Tryd.prog 8 #[] w fun x w' => x = .returned (.bool true) ∧ Below w.heap.size w w'
theorem Tab.go {w w' : World} (h : Tab w) (hb : Below w.heap.size w w') : Tab w' := h.below hb h.1
theorem linesX_take (l : List Rx) (i : Nat) (h : i < l.length) : linesX (l.take (i + 1)) = linesX (l.take i) ++ (textX l[i] ++ [10]) := by
  unfold linesX
  rw [List.take_succ_eq_append_getElem h, List.flatMap_append, List.flatMap_cons, List.flatMap_nil, List.append_nil]
theorem fitsX_take (l : List Rx) (i : Nat) (h : i < l.length) : fitsX (l.take (i + 1)) = (fitsX (l.take i) && (mayR l[i] && decide ((textX l[i]).length ≤ 65536))) := by
  unfold fitsX
  rw [List.take_succ_eq_append_getElem h, List.all_append, List.all_cons, List.all_nil, Bool.and_true]
theorem may_text {ok : Nat → Prop} {w : World} {v : Value} {r : Rx} (h : ReAt ok w v r) : mayR r = decide (textX r ≠ []) := by
  by_cases hm : mayR r = true
  · obtain ⟨e, rfl, h1, h2⟩ := may_ex h hm
    rw [hm, textX_yes hm]
    simp [text_ne h1]
  · have hm' : mayR r = false := by simpa using hm
    rw [hm', textX_no hm']; simp
end Go.Proofs.YtdkdgbiagjflgaaDoor
/- The texts of bytes and of words; no walk. -/
namespace Go.Proofs.YtdkdgbiagjflgaaDoor
theorem bytesN_one (n : Nat) (h : n < 256) : bytesN (ofN [n]) = [n] := by
  have e : bytesN (ofN [n]) = (List.range 256).filter fun m => [n].contains m := by
    unfold bytesN
    refine List.filter_congr fun m hm => ?_
    have hm' : m < 256 := by simpa using hm
    exact has_ofN [n] (by simpa using h) m hm'
  rw [e]
  have f : ∀ n : Fin 256, ((List.range 256).filter fun m => [n.1].contains m) = [n.1] := by decide +kernel
  exact f ⟨n, h⟩
theorem one_ne (n : Nat) (h : n < 256) : ofN [n] ≠ Ws.nil := fun e => by
  have h1 := bytesN_one n h
  rw [e] at h1
  have h2 : bytesN Ws.nil = [] := by decide
  rw [h2] at h1
  simp at h1
theorem textW_one (n : Nat) (h : n < 256) : textW (ofN [n]) = signL n := by
  unfold textW
  rw [bytesN_one n h]
  simp
theorem natsOf_one (c : UInt8) : natsOf [c] = [c.toNat] := rfl
def byteE (c : UInt8) : Ex := .cls (ofN (natsOf [c]))
theorem byteE_rx (c : UInt8) : (byteE c).rx = byteR c := by
  have hne : ofN (natsOf [c]) ≠ Ws.nil := one_ne c.toNat c.toNat_lt
  have : sameW (ofN (natsOf [c])) Ws.nil = false := by
    have : ¬ sameW (ofN (natsOf [c])) Ws.nil = true := fun e => hne (sameW_iff.1 e)
    simpa using this
  unfold byteR ofR byteE Ex.rx
  rw [this]; rfl
theorem byteE_wf (c : UInt8) : (byteE c).Wf := ⟨ofN_ok _, one_ne c.toNat c.toNat_lt⟩
theorem byteE_text (c : UInt8) : (byteE c).text = signL c.toNat := textW_one c.toNat c.toNat_lt
def wordE : List UInt8 → Ex
  | [] => .eps
  | [c] => byteE c
  | c :: d :: l => .seq (byteE c) (wordE (d :: l))
theorem wordE_rx : ∀ l : List UInt8, (wordE l).rx = foldR 4 2 (l.map byteR)
  | [] => rfl
  | [c] => by simp [wordE, foldR, byteE_rx]
  | c :: d :: l => by
    have ih := wordE_rx (d :: l)
    simp only [List.map_cons] at ih ⊢
    simp [wordE, foldR, Ex.rx, byteE_rx, ih]
theorem wordE_wf : ∀ l : List UInt8, (wordE l).Wf
  | [] => trivial
  | [c] => byteE_wf c
  | c :: d :: l => ⟨byteE_wf c, wordE_wf (d :: l)⟩
def signsL (l : List UInt8) : List UInt8 := l.flatMap fun c => signL c.toNat
theorem wordE_alt : ∀ l : List UInt8, (wordE l).isAlt = false
  | [] => rfl
  | [_] => rfl
  | _ :: _ :: _ => rfl
theorem wordE_text : ∀ l : List UInt8, l ≠ [] → (wordE l).text = signsL l
  | [], h => absurd rfl h
  | [c], _ => by simp [wordE, byteE_text, signsL]
  | c :: d :: l, _ => by
    have ih := wordE_text (d :: l) (by simp)
    have ha := wordE_alt (d :: l)
    rw [wordE, text_seq, part_text ha, ih]
    show (byteE c).text ++ signsL (d :: l) = _
    rw [byteE_text]
    simp [signsL]
theorem wordE_size : ∀ l : List UInt8, l ≠ [] → (wordE l).size + 1 = 2 * l.length
  | [], h => absurd rfl h
  | [c], _ => by simp [wordE, byteE, Ex.size]
  | c :: d :: l, _ => by
    have ih := wordE_size (d :: l) (by simp)
    have hb : (byteE c).size = 1 := rfl
    simp [wordE, Ex.size, hb] at ih ⊢
    omega
theorem may_of {e : Ex} (h : e.Wf) (hs : e.size ≤ 2000) : mayR e.rx = true := by
  unfold mayR mayN
  rw [good_ex e h, Ex.size_rx]
  simpa using hs
theorem star_word (l : List UInt8) (h : 2 ≤ l.length) : (Ex.star (wordE l)).text = 40 :: (signsL l ++ [41, 42]) := by
  match l, h with
  | c :: d :: l, _ =>
    have ht := wordE_text (c :: d :: l) (by simp)
    rw [text_star]
    show (40 :: ((wordE (c :: d :: l)).text ++ [41])) ++ [42] = _
    rw [ht]; simp
theorem signsL_take (l : List UInt8) (i : Nat) (h : i < l.length) : signsL (l.take (i + 1)) = signsL (l.take i) ++ signL l[i].toNat := by
  unfold signsL
  rw [List.take_succ_eq_append_getElem h, List.flatMap_append, List.flatMap_cons, List.flatMap_nil, List.append_nil]
theorem signsL_length (l : List UInt8) : (signsL l).length ≤ 3 * l.length := by
  induction l with
  | nil => simp [signsL]
  | cons c t ih =>
    have := signL_length c.toNat
    simp [signsL] at ih ⊢
    omega
/-- The document's example. -/
def awakeE : Ex := .seq (byteE 97) (.seq (.alt (byteE 98) (byteE 99)) (.star (byteE 97)))
theorem awakeE_wf : awakeE.Wf := ⟨byteE_wf _, ⟨byteE_wf _, byteE_wf _⟩, byteE_wf _⟩
theorem awakeE_text : awakeE.text = [97, 40, 98, 124, 99, 41, 97, 42] := by
  have h1 : (byteE 97).text = [97] := by rw [byteE_text]; decide +kernel
  have h2 : (byteE 98).text = [98] := by rw [byteE_text]; decide +kernel
  have h3 : (byteE 99).text = [99] := by rw [byteE_text]; decide +kernel
  have i1 : (byteE 97).item = (byteE 97).text := rfl
  have i2 : (byteE 98).part = (byteE 98).text := rfl
  have p1 : (Ex.star (byteE 97)).part = (Ex.star (byteE 97)).text := rfl
  show (byteE 97).item ++ ((Ex.alt (byteE 98) (byteE 99)).item ++ (Ex.star (byteE 97)).part) = _
  rw [item_alt, text_alt, p1, text_star, i1, i2, h1, h2, h3]
  rfl
theorem awakeE_rx : awakeE.rx = foldR 4 2 [byteR 97, foldR 5 1 [byteR 98, byteR 99], .node 6 Ws.nil [byteR 97]] := by
  simp [awakeE, Ex.rx, foldR, byteE_rx]
theorem awakeE_textX : textX (foldR 4 2 [byteR 97, foldR 5 1 [byteR 98, byteR 99], .node 6 Ws.nil [byteR 97]]) = [97, 40, 98, 124, 99, 41, 97, 42] := by
  rw [← awakeE_rx, textX_yes (may_of awakeE_wf (by decide)), awakeE_text]
end Go.Proofs.YtdkdgbiagjflgaaDoor
/- quilllaw05.ShowSigns, walked. -/
namespace Go.Proofs.YtdkdgbiagjflgaaDoor
open Go.RowKit
def signsInv (s : ByteArray) (w : World) (v y : Value) (wr : World) : Prop := ∃ (i : Nat) (A : List UInt8), i ≤ s.size ∧ y = .int .i64 i ∧ v = .string ⟨A.toArray⟩ ∧ A = signsL (s.data.toList.take i) ∧ A.length ≤ 3 * i ∧ Below w.heap.size w wr
theorem signs_step (s : ByteArray) (i : Nat) (h : i < s.size) : signsL (s.data.toList.take (i + 1)) = signsL (s.data.toList.take i) ++ signL s[i].toNat := by
  have := signsL_take s.data.toList i (by simpa using h)
  rw [this]
  rfl
set_option maxHeartbeats 4000000 in
theorem showSigns_walk (hText : TextC) (hAwake : AwakeC) (s : ByteArray) (w : World) (hT : Tab w) (hs : s.size ≤ maxLen) :
    Calls Tryd.prog 6 #[.string s] w fun e w' => e = .returned (.bool true) ∧ Below w.heap.size w w' := by
  have KA := Lib.hid fun W (hb : Below w.heap.size w W) => hAwake W (hT.go hb)
  have hmx : s.size ≤ 9223372036854775807 := by unfold maxLen at hs; omega
  by_cases h60 : 60 < s.size
  · have d1 : decide ((60 : Int) < (s.size : Int)) = true := decide_eq_true (by omega)
    have d2 : (60 : Int) < (s.size : Int) := by omega
    clear hText hAwake hT
    go_enter Tryd.func6, Tryd.ntmps6
    go_wp2_with fail
    refine (KA.out _ (Below.refl _ w)).mono ?_
    rintro e w2 ⟨rfl, hb2⟩
    go_wp2
    go_ret
    exact ⟨rfl, hb2⟩
  have d1 : decide ((60 : Int) < (s.size : Int)) = false := decide_eq_false (by omega)
  have d1' : ¬ (60 : Int) < (s.size : Int) := by omega
  by_cases h2 : s.size < 2
  · have d2 : decide ((s.size : Int) < 2) = true := decide_eq_true (by omega)
    have d3 : (s.size : Int) < 2 := by omega
    clear hText hAwake hT
    go_enter Tryd.func6, Tryd.ntmps6
    go_wp2_with fail
    refine (KA.out _ (Below.refl _ w)).mono ?_
    rintro e w2 ⟨rfl, hb2⟩
    go_wp2
    go_ret
    exact ⟨rfl, hb2⟩
  have d2 : decide ((s.size : Int) < 2) = false := decide_eq_false (by omega)
  have d2' : ¬ (s.size : Int) < 2 := by omega
  have HTX := Lib.hid hText
  have HT := Lib.hid hT
  have hlist : s.data.toList.length = s.size := by simp
  have hne : s.data.toList ≠ [] := fun e => by rw [e] at hlist; simp at hlist; omega
  have KW := Lib.hid fun W => word_any s W (by omega)
  have hrx : foldR 4 2 (wordL s) = (wordE s.data.toList).rx := (wordE_rx s.data.toList).symm
  rw [hrx] at KW
  have hsz := wordE_size s.data.toList hne
  have hwf := wordE_wf s.data.toList
  have ht1 : textX (wordE s.data.toList).rx = signsL s.data.toList := by
    rw [textX_yes (may_of hwf (by omega)), wordE_text _ hne]
  have ht2 : textX (Rx.node 6 Ws.nil [(wordE s.data.toList).rx]) = 40 :: (signsL s.data.toList ++ [41, 42]) := by
    rw [show Rx.node 6 Ws.nil [(wordE s.data.toList).rx] = (Ex.star (wordE s.data.toList)).rx from rfl, textX_yes (may_of (e := .star (wordE s.data.toList)) hwf (by simp [Ex.size]; omega)), star_word _ (by omega)]
  have hz1 : (wordE s.data.toList).rx.size ≤ 1000000 := by rw [Ex.size_rx]; omega
  have hz2 : (Rx.node 6 Ws.nil [(wordE s.data.toList).rx]).size ≤ 1000000 := by simp [Rx.size, Rx.sizes, Ex.size_rx]; omega
  have KT1 := Lib.hid fun (ok : Nat → Prop) (v : Value) (W : World) (hb : Below w.heap.size w W) (h : ReAt ok W v (wordE s.data.toList).rx) => HTX.out ok _ v W (HT.out.go hb) hz1 h
  have KT2 := Lib.hid fun (ok : Nat → Prop) (v : Value) (W : World) (hb : Below w.heap.size w W) (h : ReAt ok W v (Rx.node 6 Ws.nil [(wordE s.data.toList).rx])) => HTX.out ok _ v W (HT.out.go hb) hz2 h
  rw [ht1] at KT1
  rw [ht2] at KT2
  have KM := Lib.hid fun (ok : Nat → Prop) (v : Value) (W : World) (h : ReAt ok W v (wordE s.data.toList).rx) => manyX_any _ v W h
  generalize Rx.node 6 Ws.nil [(wordE s.data.toList).rx] = r2 at *
  generalize (wordE s.data.toList).rx = r1 at *
  clear hText hAwake hT HTX hrx hsz hwf ht1 ht2 hz1 hz2 hne hlist
  go_enter Tryd.func6, Tryd.ntmps6
  go_wp2
  go_loopw [3, 4] (fun v y wr => signsInv s w v y wr) (fun _ y _ => s.size - (intOf y).toNat)
  case atStart => exact ⟨0, [], Nat.zero_le _, rfl, rfl, by simp [signsL], by simp, Below.refl _ w⟩
  case round =>
    obtain ⟨i, A, hi, rfl, rfl, hA, hAl, hb⟩ := hrel
    have HA := Lib.hid hA
    clear hA
    by_cases hlt : i < s.size
    · have hst := signs_step s i hlt
      rw [← HA.out] at hst
      have K := Lib.hid fun W => sign_any s[i].toNat W s[i].toNat_lt
      have hl3 := signL_length s[i].toNat
      generalize signL s[i].toNat = T at *
      have HST := Lib.hid hst
      have q1 : (i : Int) < (s.size : Int) := by omega
      have fin : (ByteArray.mk A.toArray ++ ByteArray.mk T.toArray) = ⟨(A ++ T).toArray⟩ := bytes_app A T
      have FIN := Lib.hid fin
      have m1 : ¬ (9223372036854775807 < A.length + T.length) := by omega
      clear hst fin
      go_wp2_with fail
      refine (K.out _).mono ?_
      rintro e w1 ⟨rfl, hb1⟩
      replace hb := hb.trans (hb1.mono hb.size)
      clear hb1
      go_wp2
      exact ⟨⟨i + 1, A ++ T, by omega, by go_num, congrArg Value.string FIN.out, HST.out.symm, by simp; omega, hb⟩, by simp [intOf]; omega⟩
    · have he : s.data.toList.take i = s.data.toList := List.take_of_length_le (by simp; omega)
      rw [he] at HA
      rw [← HA.out] at KT1 KT2
      have q1 : ¬ (i : Int) < (s.size : Int) := by omega
      have hal : A.length ≤ 180 := by omega
      clear he
      go_wp2_with fail
      refine (KW.out _).mono ?_
      rintro e w1 ⟨v, rfl, hv, hb1⟩
      obtain ⟨x0, x1, x2, x3, x4, bl, n', cp, rfl⟩ := cells_re hv
      replace hb := hb.trans (hb1.mono hb.size)
      have HV := Lib.hid hv
      clear hb1 hv KW
      go_wp2_with fail
      have hb2 : Below w1.heap.size w1 (w1.alloc (.cells #[.int .u8 x0, .int .u64 x1, .int .u64 x2, .int .u64 x3, .int .u64 x4, .slice bl n' cp] 30)) := (Below.refl _ w1).alloc (Nat.le_refl _) _
      refine (KT1.out _ _ _ (hb.trans (hb2.mono hb.size)) (HV.out.below hb2)).mono ?_
      rintro e w3 ⟨rfl, hb3⟩
      have hx := (hb3.block w1.heap.size (by simp)).trans (blk_new w1 _)
      obtain ⟨c0, c1, c2, c3, c4, c5, -⟩ := cellsR hx
      have hb4 : Below w1.heap.size w1 w3 := hb2.trans (hb3.mono (by simp))
      replace hb := hb.trans (hb4.mono hb.size)
      have KM3 := Lib.hid (KM.out _ _ w3 (HV.out.below hb4))
      clear hb2 hb3 hb4 hx HV
      go_wp2_with fail
      refine KM3.out.mono ?_
      rintro e w4 ⟨v, rfl, hv, hb4⟩
      obtain ⟨y0, y1, y2, y3, y4, yl, yn, yc, rfl⟩ := cells_re hv
      replace hb := hb.trans (hb4.mono hb.size)
      have K4 := Lib.hid (KT2.out _ _ w4 hb hv)
      clear hb4 hv KM3 c0 c1 c2 c3 c4 c5
      go_wp2_with fail
      refine K4.out.mono ?_
      rintro e w5 ⟨rfl, hb5⟩
      replace hb := hb.trans (hb5.mono hb.size)
      clear hb5
      have m1 : ¬ (9223372036854775807 < 1 + A.length) := by omega
      have m2 : ¬ (9223372036854775807 < 1 + A.length + 2) := by omega
      have fin : (ByteArray.mk [40].toArray ++ ByteArray.mk A.toArray ++ ByteArray.mk [41, 42].toArray) = ⟨(40 :: (A ++ [41, 42])).toArray⟩ := by rw [bytes_app, bytes_app]; simp
      go_wp2_with fail
      refine (KA.out _ hb).mono ?_
      rintro e w6 ⟨rfl, hb6⟩
      have hB := hb.trans (hb6.mono hb.size)
      clear hb hb6
      go_wp2
      go_ret
      exact ⟨rfl, hB⟩
end Go.Proofs.YtdkdgbiagjflgaaDoor
/- quilllaw05's example, on what package show's Text answers. -/
namespace Go.Proofs.YtdkdgbiagjflgaaDoor
open Go.RowKit
theorem bel_call5 {P : Prop} {W x y : World} (hb : Below x.heap.size x y) (h : P ∧ Below W.heap.size W x) : Below W.heap.size W y := h.2.trans (hb.mono h.2.size)
theorem bel_alloc5 {P : Prop} {W x : World} (o : Obj) (h : P ∧ Below W.heap.size W x) : Below W.heap.size W (x.alloc o) := h.2.alloc h.2.size o
theorem byte_any {ok ok' : Nat → Prop} {w : World} (w' : World) {v : Value} {c : UInt8} (h : ReAt ok w v (byteR c)) : ReAt ok' w' v (byteR c) := by
  rw [← byteE_rx] at h ⊢
  exact leaf_any w' h
theorem row_at2' {w : World} {g : Nat} {ok ok' : Nat → Prop} {x0 x1 x2 x3 x4 x5 y0 y1 y2 y3 y4 y5 : Value} {r t : Rx} (hg : g = w.heap.size) (h : ReAt ok w (.agg #[x0, x1, x2, x3, x4, x5]) r) (h' : ReAt ok' w (.agg #[y0, y1, y2, y3, y4, y5]) t) :
    RowAt (fun _ => True) (w.alloc (.cells #[x0, x1, x2, x3, x4, x5, y0, y1, y2, y3, y4, y5] 30)) (some ⟨g, 0, none⟩) [r, t] := by
  subst hg
  exact row_two (blk_new w _) trivial ((h.below ((Below.refl _ w).alloc (Nat.le_refl _) _)).imp fun _ _ _ => trivial) ((h'.below ((Below.refl _ w).alloc (Nat.le_refl _) _)).imp fun _ _ _ => trivial)
theorem row_at3' {w : World} {g : Nat} {ok ok' ok'' : Nat → Prop} {x0 x1 x2 x3 x4 x5 y0 y1 y2 y3 y4 y5 z0 z1 z2 z3 z4 z5 : Value} {r t u : Rx} (hg : g = w.heap.size) (h : ReAt ok w (.agg #[x0, x1, x2, x3, x4, x5]) r) (h' : ReAt ok' w (.agg #[y0, y1, y2, y3, y4, y5]) t) (h'' : ReAt ok'' w (.agg #[z0, z1, z2, z3, z4, z5]) u) :
    RowAt (fun _ => True) (w.alloc (.cells #[x0, x1, x2, x3, x4, x5, y0, y1, y2, y3, y4, y5, z0, z1, z2, z3, z4, z5] 30)) (some ⟨g, 0, none⟩) [r, t, u] := by
  subst hg
  have hb : Below w.heap.size w (w.alloc (.cells #[x0, x1, x2, x3, x4, x5, y0, y1, y2, y3, y4, y5, z0, z1, z2, z3, z4, z5] 30)) := (Below.refl _ w).alloc (Nat.le_refl _) _
  have hB := blk_new w (.cells #[x0, x1, x2, x3, x4, x5, y0, y1, y2, y3, y4, y5, z0, z1, z2, z3, z4, z5] 30)
  refine .inr ⟨_, 0, rfl, (Array.getElem?_eq_some_iff.1 hB).1, trivial, ?_⟩
  unfold NodesAt NodesAt NodesAt NodesAt
  refine ⟨node_at ((h.below hb).imp fun _ _ _ => trivial) ?_ ?_ ?_ ?_ ?_ ?_, node_at ((h'.below hb).imp fun _ _ _ => trivial) ?_ ?_ ?_ ?_ ?_ ?_, node_at ((h''.below hb).imp fun _ _ _ => trivial) ?_ ?_ ?_ ?_ ?_ ?_, trivial⟩ <;> (rw [Lib.cell_of_heap hB]; rfl)
set_option maxHeartbeats 4000000 in
theorem awake5_any (hText : TextC) (w : World) (hT : Tab w) :
    Calls Tryd.prog 8 #[] w fun e w' => e = .returned (.bool true) ∧ Below w.heap.size w w' := by
  have K1 := Lib.hid fun (c : UInt8) (al : Option Addr) (W : World) (h : BytesAt W al [c]) => setOf_any al [c] 1 W h
  have K2 := Lib.hid fun (c : UInt8) (W : World) => ofX_any (ofN (natsOf [c])) W (ofN_ok _)
  have hby : ∀ c : UInt8, ofR (ofN (natsOf [c])) = byteR c := fun _ => rfl
  simp only [hby] at K2
  have HTX := Lib.hid hText
  have HT := Lib.hid hT
  clear hText hT
  go_enter Tryd.func8, Tryd.ntmps8
  go_wp2_with fail
  refine (K1.out 97 _ _ (bytes_one w 97 _ rfl)).mono ?_
  rintro e w0a ⟨rfl, hb1⟩
  have hbr : Below w.heap.size w w0a := ((Below.refl _ w).alloc (Nat.le_refl _) _).trans (hb1.mono (by simp))
  have hbw := hbr
  clear hb1 hbr
  have K := K2.out 97 w0a
  generalize ofN (natsOf [97]) = s0 at *
  obtain ⟨aa, ab, ac, ad⟩ := s0
  unfold Ws.v at *
  simp only at K
  have KO := Lib.hid K
  clear K
  go_wp2_with fail
  refine KO.out.mono ?_
  rintro e w0b ⟨v, rfl, hv, hb1⟩
  obtain ⟨a0, a1, a2, a3, a4, al, an, ak, rfl⟩ := cells_re hv
  replace hbw := hbw.trans (hb1.mono hbw.size)
  have Ha := Lib.hid hv
  clear hv hb1 KO
  go_wp2_with fail
  refine (K1.out 98 _ _ (bytes_one w0b 98 _ rfl)).mono ?_
  rintro e w1a ⟨rfl, hb1⟩
  have hbr : Below w0b.heap.size w0b w1a := ((Below.refl _ w0b).alloc (Nat.le_refl _) _).trans (hb1.mono (by simp))
  replace hbw := hbw.trans (hbr.mono hbw.size)
  clear hb1 hbr
  have K := K2.out 98 w1a
  generalize ofN (natsOf [98]) = s1 at *
  obtain ⟨ba, bb, bc, bd⟩ := s1
  unfold Ws.v at *
  simp only at K
  have KO := Lib.hid K
  clear K
  go_wp2_with fail
  refine KO.out.mono ?_
  rintro e w1b ⟨v, rfl, hv, hb1⟩
  obtain ⟨b0, b1, b2, b3, b4, bl, bn, bk, rfl⟩ := cells_re hv
  replace hbw := hbw.trans (hb1.mono hbw.size)
  have Hb := Lib.hid hv
  clear hv hb1 KO
  go_wp2_with fail
  refine (K1.out 99 _ _ (bytes_one w1b 99 _ rfl)).mono ?_
  rintro e w2a ⟨rfl, hb1⟩
  have hbr : Below w1b.heap.size w1b w2a := ((Below.refl _ w1b).alloc (Nat.le_refl _) _).trans (hb1.mono (by simp))
  replace hbw := hbw.trans (hbr.mono hbw.size)
  clear hb1 hbr
  have K := K2.out 99 w2a
  generalize ofN (natsOf [99]) = s2 at *
  obtain ⟨ca, cb, cc, cd⟩ := s2
  unfold Ws.v at *
  simp only at K
  have KO := Lib.hid K
  clear K
  go_wp2_with fail
  refine KO.out.mono ?_
  rintro e w2b ⟨v, rfl, hv, hb1⟩
  obtain ⟨c0, c1, c2, c3, c4, cl, cn, ck, rfl⟩ := cells_re hv
  replace hbw := hbw.trans (hb1.mono hbw.size)
  have Hc := Lib.hid hv
  clear hv hb1 KO
  obtain ⟨w3, hw3⟩ : ∃ w3, w3 = ((w2b.alloc (.cells #[.int .u8 a0, .int .u64 a1, .int .u64 a2, .int .u64 a3, .int .u64 a4, .slice al an ak] 30)).alloc (.cells #[.int .u8 b0, .int .u64 b1, .int .u64 b2, .int .u64 b3, .int .u64 b4, .slice bl bn bk] 30)).alloc (.cells #[.int .u8 c0, .int .u64 c1, .int .u64 c2, .int .u64 c3, .int .u64 c4, .slice cl cn ck] 30) := ⟨_, rfl⟩
  have hb3 : Below w2b.heap.size w2b w3 := by rw [hw3]; exact (((Below.refl _ w2b).alloc (Nat.le_refl _) _).alloc (by simp) _).alloc (by simp; omega) _
  have ba : w3.heap[w2b.heap.size]? = some (.cells #[.int .u8 a0, .int .u64 a1, .int .u64 a2, .int .u64 a3, .int .u64 a4, .slice al an ak] 30) := by rw [hw3]; exact (Below.heap_alloc _ _ _ (by simp; omega)).trans ((Below.heap_alloc _ _ _ (by simp)).trans (blk_new w2b _))
  have bb : w3.heap[w2b.heap.size + 1]? = some (.cells #[.int .u8 b0, .int .u64 b1, .int .u64 b2, .int .u64 b3, .int .u64 b4, .slice bl bn bk] 30) := by rw [hw3]; exact (Below.heap_alloc _ _ _ (by simp)).trans (blk_at _ _ (by simp))
  have bc : w3.heap[w2b.heap.size + 1 + 1]? = some (.cells #[.int .u8 c0, .int .u64 c1, .int .u64 c2, .int .u64 c3, .int .u64 c4, .slice cl cn ck] 30) := by rw [hw3]; exact blk_at _ _ (by simp)
  have KEEP := Lib.hid fun x (hx2 : Below w3.heap.size w3 x) => show ((x.cell? ⟨w2b.heap.size, 0, none⟩ = some (.int .u8 a0) ∧ x.cell? ⟨w2b.heap.size, 1, none⟩ = some (.int .u64 a1) ∧ x.cell? ⟨w2b.heap.size, 2, none⟩ = some (.int .u64 a2) ∧ x.cell? ⟨w2b.heap.size, 3, none⟩ = some (.int .u64 a3) ∧ x.cell? ⟨w2b.heap.size, 4, none⟩ = some (.int .u64 a4) ∧ x.cell? ⟨w2b.heap.size, 5, none⟩ = some (.slice al an ak)) ∧ (x.cell? ⟨w2b.heap.size + 1, 0, none⟩ = some (.int .u8 b0) ∧ x.cell? ⟨w2b.heap.size + 1, 1, none⟩ = some (.int .u64 b1) ∧ x.cell? ⟨w2b.heap.size + 1, 2, none⟩ = some (.int .u64 b2) ∧ x.cell? ⟨w2b.heap.size + 1, 3, none⟩ = some (.int .u64 b3) ∧ x.cell? ⟨w2b.heap.size + 1, 4, none⟩ = some (.int .u64 b4) ∧ x.cell? ⟨w2b.heap.size + 1, 5, none⟩ = some (.slice bl bn bk)) ∧ (x.cell? ⟨w2b.heap.size + 1 + 1, 0, none⟩ = some (.int .u8 c0) ∧ x.cell? ⟨w2b.heap.size + 1 + 1, 1, none⟩ = some (.int .u64 c1) ∧ x.cell? ⟨w2b.heap.size + 1 + 1, 2, none⟩ = some (.int .u64 c2) ∧ x.cell? ⟨w2b.heap.size + 1 + 1, 3, none⟩ = some (.int .u64 c3) ∧ x.cell? ⟨w2b.heap.size + 1 + 1, 4, none⟩ = some (.int .u64 c4) ∧ x.cell? ⟨w2b.heap.size + 1 + 1, 5, none⟩ = some (.slice cl cn ck))) ∧ Below w3.heap.size w3 x from by
    obtain ⟨d0, d1, d2, d3, d4, d5, -⟩ := cellsR ((hx2.block _ (Array.getElem?_eq_some_iff.1 ba).1).trans ba)
    obtain ⟨e0, e1, e2, e3, e4, e5, -⟩ := cellsR ((hx2.block _ (Array.getElem?_eq_some_iff.1 bb).1).trans bb)
    obtain ⟨f0, f1, f2, f3, f4, f5, -⟩ := cellsR ((hx2.block _ (Array.getElem?_eq_some_iff.1 bc).1).trans bc)
    exact ⟨⟨⟨d0, d1, d2, d3, d4, d5⟩, ⟨e0, e1, e2, e3, e4, e5⟩, ⟨f0, f1, f2, f3, f4, f5⟩⟩, hx2⟩
  replace hbw := hbw.trans (hb3.mono hbw.size)
  have HW3 := Lib.hid hw3
  have A1 := Lib.hid fun W => byte_any (ok' := fun _ => True) W Ha.out
  have B1 := Lib.hid fun W => byte_any (ok' := fun _ => True) W Hb.out
  have C1 := Lib.hid fun W => byte_any (ok' := fun _ => True) W Hc.out
  have KO := Lib.hid fun (al : Option Addr) (W : World) (h : RowAt (fun _ => True) W al [byteR 98, byteR 99]) => or_any [byteR 98, byteR 99] al 2 W (by decide) h
  have KM := Lib.hid fun (W : World) => manyX_any (byteR 97) _ W (A1.out W)
  have KT := Lib.hid fun (al : Option Addr) (W : World) (h : RowAt (fun _ => True) W al [byteR 97, foldR 5 1 [byteR 98, byteR 99], .node 6 Ws.nil [byteR 97]]) => then_any [byteR 97, foldR 5 1 [byteR 98, byteR 99], .node 6 Ws.nil [byteR 97]] al 3 W (by decide) h
  have KX := Lib.hid fun (v : Value) (W : World) (ok : Nat → Prop) (hb : Below w.heap.size w W) (h : ReAt ok W v (foldR 4 2 [byteR 97, foldR 5 1 [byteR 98, byteR 99], .node 6 Ws.nil [byteR 97]])) => HTX.out ok _ v W (HT.out.go hb) (by rw [← awakeE_rx, Ex.size_rx]; decide) h
  rw [awakeE_textX] at KX
  rw [show [byteR 98, byteR 99].length = 2 from rfl] at KO
  rw [show [byteR 97, foldR 5 1 [byteR 98, byteR 99], Rx.node 6 Ws.nil [byteR 97]].length = 3 from rfl] at KT
  generalize foldR 4 2 [byteR 97, foldR 5 1 [byteR 98, byteR 99], .node 6 Ws.nil [byteR 97]] = R at *
  generalize foldR 5 1 [byteR 98, byteR 99] = O at *
  generalize byteR 97 = ra at *
  generalize byteR 98 = rb at *
  generalize byteR 99 = rc at *
  clear hb3 ba bb bc Ha Hb Hc K1 K2 HTX hby hw3
  go_wp2_with fail
  rw [← HW3.out]
  clear HW3
  go_region_held3 (fun x => ((x.cell? ⟨w2b.heap.size, 0, none⟩ = some (.int .u8 a0) ∧ x.cell? ⟨w2b.heap.size, 1, none⟩ = some (.int .u64 a1) ∧ x.cell? ⟨w2b.heap.size, 2, none⟩ = some (.int .u64 a2) ∧ x.cell? ⟨w2b.heap.size, 3, none⟩ = some (.int .u64 a3) ∧ x.cell? ⟨w2b.heap.size, 4, none⟩ = some (.int .u64 a4) ∧ x.cell? ⟨w2b.heap.size, 5, none⟩ = some (.slice al an ak)) ∧ (x.cell? ⟨w2b.heap.size + 1, 0, none⟩ = some (.int .u8 b0) ∧ x.cell? ⟨w2b.heap.size + 1, 1, none⟩ = some (.int .u64 b1) ∧ x.cell? ⟨w2b.heap.size + 1, 2, none⟩ = some (.int .u64 b2) ∧ x.cell? ⟨w2b.heap.size + 1, 3, none⟩ = some (.int .u64 b3) ∧ x.cell? ⟨w2b.heap.size + 1, 4, none⟩ = some (.int .u64 b4) ∧ x.cell? ⟨w2b.heap.size + 1, 5, none⟩ = some (.slice bl bn bk)) ∧ (x.cell? ⟨w2b.heap.size + 1 + 1, 0, none⟩ = some (.int .u8 c0) ∧ x.cell? ⟨w2b.heap.size + 1 + 1, 1, none⟩ = some (.int .u64 c1) ∧ x.cell? ⟨w2b.heap.size + 1 + 1, 2, none⟩ = some (.int .u64 c2) ∧ x.cell? ⟨w2b.heap.size + 1 + 1, 3, none⟩ = some (.int .u64 c3) ∧ x.cell? ⟨w2b.heap.size + 1 + 1, 4, none⟩ = some (.int .u64 c4) ∧ x.cell? ⟨w2b.heap.size + 1 + 1, 5, none⟩ = some (.slice cl cn ck))) ∧ Below w3.heap.size w3 x)
    (first | assumption | (with_reducible exact KEEP.out _ (Below.refl _ _).drew) | (with_reducible exact KEEP.out _ (by assumption)) | (with_reducible exact KEEP.out _ (bel_alloc5 _ (by assumption))))
    (first
    | (go_at_call 24; (with_reducible refine (KO.out _ _ ?_).mono ?_); (focus (exact (row_at2' (by simp) (B1.out _) (C1.out _)).below (Below.refl _ _).drew)); (rintro e wo ⟨vo, rfl, hvo, hbo⟩); (have hWo := bel_call5 hbo (by assumption)); (obtain ⟨o0, o1, o2, o3, o4, ol, oq, oc, rfl⟩ := cells_re hvo))
    | (go_at_call 20; (with_reducible refine (KM.out _).mono ?_); (rintro e wm ⟨vm, rfl, hvm, hbm⟩); (have hWm := bel_call5 hbm (by assumption)); (obtain ⟨m0, m1, m2, m3, m4, ml, mn, mc, rfl⟩ := cells_re hvm))
    | (go_at_call 23; (with_reducible refine (KT.out _ _ ?_).mono ?_); (focus (exact row_at3' (by simp) (A1.out _) (hvo.below hbm) hvm)); (rintro e wt ⟨vt, rfl, hvt, hbt⟩); (have hWt := bel_call5 hbt (by assumption)); (obtain ⟨t0, t1, t2, t3, t4, tl, tn, tc, rfl⟩ := cells_re hvt))
    | (go_at_call 10; (with_reducible refine (KX.out _ _ _ (hbw.trans (hWt.mono hbw.size)) hvt).mono ?_); (rintro e wx ⟨rfl, hbx⟩); (have hWx := bel_call5 hbx (by assumption))))
  go_wp2
  go_ret
  exact ⟨rfl, hbw.trans (hWx.mono hbw.size)⟩
end Go.Proofs.YtdkdgbiagjflgaaDoor
/- show's page: what is written of a kid, given what is written of a node. -/
namespace Go.Proofs.YtdkdgbiagjflgaaDoor
open Go.RowKit
/-- A page holds a text. -/
def Pg (B b : Nat) (l : List UInt8) (w : World) : Prop := Lib.IsBuilderF 51 5 B b (Lib.byteCells l) w
/-- What was there is there still: below B all, above it all but the page and rows of bytes. -/
def Fr (B b : Nat) (w w' : World) : Prop := Below B w w' ∧ Lib.OthersKept 5 (some b) w w'
theorem Fr.refl (B b : Nat) (w : World) : Fr B b w w := ⟨Below.refl _ _, Lib.OthersKept.refl _ _ _⟩
theorem Fr.trans {B b : Nat} {u v w : World} (h : Fr B b u v) (k : Fr B b v w) : Fr B b u w := ⟨h.1.trans k.1, h.2.trans k.2⟩
theorem fr_below {B b : Nat} {w w' : World} (h : Below w.heap.size w w') (hB : B ≤ w.heap.size) : Fr B b w w' :=
  ⟨h.mono hB, fun k _ hk _ _ => (h.block k (Array.getElem?_eq_some_iff.1 hk).1).trans hk⟩
theorem Fr.size {B b : Nat} {w w' : World} (h : Fr B b w w') (hB : B ≤ w.heap.size) : B ≤ w'.heap.size := Nat.le_trans hB h.1.size
theorem Fr.box {B b g : Nat} {w w' : World} {X : Array Value} {fz : Nat × Nat} (h : Fr B b w w') (hg : w.heap[g]? = some (.cells X 30 fz)) (hgb : g ≠ b) : w'.heap[g]? = some (.cells X 30 fz) :=
  h.2 g _ hg (by simpa using hgb) (fun c fz h => by simp at h)
theorem Pg.below {B b : Nat} {l : List UInt8} {w w' : World} (h : Pg B b l w) (hb : Below w.heap.size w w') : Pg B b l w' := builder_below h hb
theorem Pg.lt {B b : Nat} {l : List UInt8} {w : World} (h : Pg B b l w) : b < w.heap.size := by
  rcases h with h | h
  · exact h.lt
  · exact h.lt
theorem Pg.ge {B b : Nat} {l : List UInt8} {w : World} (h : Pg B b l w) : B ≤ b := by
  rcases h with h | h
  · exact h.1
  · exact h.1
theorem ReAt.fr {B b : Nat} {w w' : World} {v : Value} {r : Rx} (h : ReAt (Lo B) w v r) (hB : B ≤ w.heap.size) (hf : Fr B b w w') : ReAt (Lo B) w' v r := h.go (kept_lo hB hf.1)
theorem Tab.fr {B b : Nat} {w w' : World} (h : Tab w) (hB : 1 < B) (hf : Fr B b w w') : Tab w' := h.below hf.1 hB
def PgPost (B b : Nat) (l : List UInt8) (w : World) (e : Ending) (w' : World) : Prop := e = .returned (.tuple #[]) ∧ Pg B b l w' ∧ Fr B b w w'
theorem pgByte (B b : Nat) (l : List UInt8) (c : UInt8) (w : World) (h : Pg B b l w) (hlen : l.length + 1 ≤ 1000000000000) (hBw : B ≤ w.heap.size) :
    Calls Tryd.prog 27 #[.pointer (some ⟨b, 0, none⟩), .int .u8 c.toNat] w fun e w' => e = .returned .nilIface ∧ Pg B b (l ++ [c]) w' ∧ Fr B b w w' := by
  refine (pg_writeByte_any B b _ _ w h (by rw [Lib.byteCells_length]; omega) hBw).mono ?_
  rintro e w' ⟨rfl, h1, h2, h3⟩
  refine ⟨rfl, ?_, h2, h3⟩
  unfold Pg
  rw [Lib.byteCells_append]; exact h1
theorem pgText (B b : Nat) (l s : List UInt8) (w : World) (h : Pg B b l w) (hlen : l.length + s.length ≤ 1000000000000) (hBw : B ≤ w.heap.size) :
    Calls Tryd.prog 50 #[.pointer (some ⟨b, 0, none⟩), .string ⟨s.toArray⟩] w fun e w' => (∃ n, e = .returned (.tuple #[.int .i64 n, .nilIface])) ∧ Pg B b (l ++ s) w' ∧ Fr B b w w' := by
  refine (pg_writeString_any B b _ _ w h (by rw [Lib.byteCells_length]; show _ + s.toArray.size ≤ _; simp; omega) hBw).mono ?_
  rintro e w' ⟨rfl, h1, h2, h3⟩
  refine ⟨⟨_, rfl⟩, ?_, h2, h3⟩
  unfold Pg
  rw [Lib.byteCells_append, ← strCells_mk s]; exact h1
/-- What is written of a node of at most N nodes. -/
def NodeC (B N : Nat) : Prop := ∀ (e : Ex), e.size ≤ N → ∀ (v : Value) (w : World) (b : Nat) (pre : List UInt8), e.Wf → Tab w → B ≤ w.heap.size → pre.length + e.text.length ≤ 1000000000000 → Pg B b pre w → ReAt (Lo B) w v e.rx →
    Calls Tryd.prog 41 #[.pointer (some ⟨b, 0, none⟩), v] w (PgPost B b (pre ++ e.text) w)
set_option maxHeartbeats 2000000 in
theorem kid_any {B N : Nat} (hGB : 1 < B) (ih : NodeC B N) (e : Ex) (hN : e.size ≤ N) (br : List UInt8) (a : Option Addr) (cap' : Nat) (v : Value) (w : World) (b : Nat) (pre : List UInt8) (q : Bool) (k : Nat) (s : Ws) (ks : List Rx) (hrx : e.rx = .node k s ks) (hq : anyB br k = q) (hbl : br.length ≤ 1000) (hbr : BytesAt w a br)
    (we : e.Wf) (hT : Tab w) (hB : B ≤ w.heap.size) (hlen : pre.length + (roundL e.text q).length ≤ 1000000000000) (hP : Pg B b pre w) (hR : ReAt (Lo B) w v e.rx) :
    Calls Tryd.prog 52 #[.pointer (some ⟨b, 0, none⟩), v, .slice a br.length cap'] w (PgPost B b (pre ++ roundL e.text q) w) := by
  have HR := Lib.hid hR
  have HT := Lib.hid hT
  have HP := Lib.hid hP
  rw [hrx] at hR
  obtain ⟨_, _, al, cap, rfl, hcap, hmax, hrow⟩ := hR
  have KI := Lib.hid fun W (p : List UInt8) (hl : p.length + e.text.length ≤ 1000000000000) (hf : Fr B b w W) (hp : Pg B b p W) => ih e hN _ W b p we (HT.out.fr hGB hf) (hf.size hB) hl hp (HR.out.fr hB hf)
  have KC := Lib.hid fun W (h : Below w.heap.size w W) => containsB_any br k a cap' W hbl (hbr.below h)
  have hgb : w.heap.size ≠ b := fun h => by have := HP.out.lt; omega
  rw [hq] at KC
  generalize e.text = T at *
  obtain ⟨ta, tb, tc, td⟩ := s
  clear hbr ih hrow HR HT hT hP
  go_enter Tryd.func52, Tryd.ntmps52
  go_wp2_with fail
  have hb0 : Below w.heap.size w (w.alloc (.cells #[.int .u8 k, .int .u64 ta, .int .u64 tb, .int .u64 tc, .int .u64 td, .slice al ks.length cap] 30)) := (Below.refl _ w).alloc (Nat.le_refl _) _
  refine (KC.out _ hb0).mono ?_
  rintro e' w1 ⟨rfl, hb1⟩
  have hx := (hb1.block w.heap.size (by simp)).trans (blk_new w _)
  obtain ⟨x0, x1, x2, x3, x4, x5, -⟩ := cellsR hx
  have hb := hb0.trans (hb1.mono (by simp))
  have F1 := Lib.hid (fr_below (b := b) hb hB)
  have P1 := Lib.hid (HP.out.below hb)
  clear hb0 hb1 hb
  cases q with
  | false =>
    simp only [roundL, if_false, Bool.false_eq_true] at hlen
    go_wp2_with fail
    refine (KI.out _ _ hlen F1.out P1.out).mono ?_
    rintro e' w2 ⟨rfl, hp2, hf2⟩
    have P2 := Lib.hid hp2
    have F2 := Lib.hid (F1.out.trans hf2)
    clear hp2 hf2 x0 x1 x2 x3 x4 x5 hx
    go_wp2
    go_end0
    exact ⟨rfl, P2.out, F2.out⟩
  | true =>
    have hlen' : pre.length + (T.length + 2) ≤ 1000000000000 := by simpa [roundL] using hlen
    clear hlen
    go_wp2_with fail
    refine (pgByte B b pre 40 _ P1.out (by omega) (F1.out.size hB)).mono ?_
    rintro e' w2 ⟨rfl, hp2, hf2⟩
    have P2 := Lib.hid hp2
    have F2 := Lib.hid (F1.out.trans hf2)
    have hx2 := hf2.box hx hgb
    clear hp2 hf2 x0 x1 x2 x3 x4 x5 hx
    obtain ⟨x0, x1, x2, x3, x4, x5, -⟩ := cellsR hx2
    go_wp2_with fail
    refine (KI.out _ _ (by simp; omega) F2.out P2.out).mono ?_
    rintro e' w3 ⟨rfl, hp3, hf3⟩
    have P3 := Lib.hid hp3
    have F3 := Lib.hid (F2.out.trans hf3)
    clear hp3 hf3 x0 x1 x2 x3 x4 x5 hx2
    go_wp2_with fail
    refine (pgByte B b _ 41 _ P3.out (by simp; omega) (F3.out.size hB)).mono ?_
    rintro e' w4 ⟨rfl, hp4, hf4⟩
    have P4 := Lib.hid hp4
    have F4 := Lib.hid (F3.out.trans hf4)
    clear hp4 hf4
    go_wp2
    go_end0
    exact ⟨rfl, by simpa [roundL] using P4.out, F4.out⟩
end Go.Proofs.YtdkdgbiagjflgaaDoor
/- show's page: what is written of a node; what is written of any expression. -/
namespace Go.Proofs.YtdkdgbiagjflgaaDoor
open Go.RowKit
set_option maxHeartbeats 2000000 in
theorem node_lit {B : Nat} (k : Nat) (t : List UInt8) (hk : (k = 1 ∧ t = [91, 93]) ∨ (k = 2 ∧ t = [40, 41])) (v : Value) (w : World) (b : Nat) (pre : List UInt8) (hB : B ≤ w.heap.size) (hlen : pre.length + t.length ≤ 1000000000000) (hP : Pg B b pre w) (hR : ReAt (Lo B) w v (.node k Ws.nil [])) :
    Calls Tryd.prog 41 #[.pointer (some ⟨b, 0, none⟩), v] w (PgPost B b (pre ++ t) w) := by
  obtain ⟨_, _, al, cap, rfl, hcap, hmax, hrow⟩ := hR
  have HP := Lib.hid hP
  clear hrow hP
  have hb0 : Below w.heap.size w (w.alloc (.cells #[.int .u8 k, .int .u64 0, .int .u64 0, .int .u64 0, .int .u64 0, .slice al 0 cap] 30)) := (Below.refl _ w).alloc (Nat.le_refl _) _
  have F1 := Lib.hid (fr_below (b := b) hb0 hB)
  have P1 := Lib.hid (HP.out.below hb0)
  have KT := Lib.hid (pgText B b pre t _ P1.out hlen (F1.out.size hB))
  clear hb0 hlen
  rcases hk with ⟨rfl, rfl⟩ | ⟨rfl, rfl⟩
  · go_enter Tryd.func41, Tryd.ntmps41
    go_wp2_with fail
    refine KT.out.mono ?_
    rintro e' w2 ⟨⟨n, rfl⟩, hp2, hf2⟩
    have P2 := Lib.hid hp2
    have F2 := Lib.hid (F1.out.trans hf2)
    clear hp2 hf2
    go_wp2
    go_end0
    exact ⟨rfl, P2.out, F2.out⟩
  · go_enter Tryd.func41, Tryd.ntmps41
    go_wp2_with fail
    refine KT.out.mono ?_
    rintro e' w2 ⟨⟨n, rfl⟩, hp2, hf2⟩
    have P2 := Lib.hid hp2
    have F2 := Lib.hid (F1.out.trans hf2)
    clear hp2 hf2
    go_wp2
    go_end0
    exact ⟨rfl, P2.out, F2.out⟩
set_option maxHeartbeats 2000000 in
theorem node_cls {B : Nat} (hGB : 1 < B) (s : Ws) (hs : s.Ok) (v : Value) (w : World) (b : Nat) (pre : List UInt8) (hT : Tab w) (hB : B ≤ w.heap.size) (hlen : pre.length + (textW s).length ≤ 1000000000000) (hP : Pg B b pre w) (hR : ReAt (Lo B) w v (.node 3 s [])) :
    Calls Tryd.prog 41 #[.pointer (some ⟨b, 0, none⟩), v] w (PgPost B b (pre ++ textW s) w) := by
  obtain ⟨_, _, al, cap, rfl, hcap, hmax, hrow⟩ := hR
  have HP := Lib.hid hP
  have KS := Lib.hid fun W (hf : Fr B b w W) => text_any s W hs (hT.fr hGB hf)
  generalize textW s = T at *
  obtain ⟨ta, tb, tc, td⟩ := s
  unfold Ws.v at KS
  simp only at KS
  clear hrow hP hT
  go_enter Tryd.func41, Tryd.ntmps41
  have hb0 : Below w.heap.size w (w.alloc (.cells #[.int .u8 3, .int .u64 ta, .int .u64 tb, .int .u64 tc, .int .u64 td, .slice al 0 cap] 30)).drew := ((Below.refl _ w).alloc (Nat.le_refl _) _).drew
  have F1 := Lib.hid (fr_below (b := b) hb0 hB)
  have P1 := Lib.hid (HP.out.below hb0)
  clear hb0
  go_wp2_with fail
  go_region_with (first
    | (go_at_call 51; (refine (KS.out _ F1.out).mono ?_); (rintro e' w1 ⟨rfl, hb1⟩); (have P2 := Lib.hid (P1.out.below hb1)); (have F2 := Lib.hid (F1.out.trans (fr_below hb1 (F1.out.size hB)))); clear hb1)
    | (go_at_call 50; (refine (pgText B b pre T _ P2.out hlen (F2.out.size hB)).mono ?_); (rintro e' w2 ⟨⟨n, rfl⟩, hp2, hf2⟩); (have P3 := Lib.hid hp2); (have F3 := Lib.hid (F2.out.trans hf2)); clear hp2 hf2)
    | fail)
  all_goals (go_wp2; go_end0; exact ⟨rfl, P3.out, F3.out⟩)
end Go.Proofs.YtdkdgbiagjflgaaDoor
/- show's page: what is written of any expression. -/
namespace Go.Proofs.YtdkdgbiagjflgaaDoor
open Go.RowKit
theorem any45 {a : Ex} {k : Nat} {s : Ws} {ks : List Rx} (h : a.rx = .node k s ks) : anyB [4, 5] k = (a.isSeq || a.isAlt) := by
  cases a <;> simp [Ex.rx] at h <;> obtain ⟨rfl, -⟩ := h <;> rfl
theorem any5 {a : Ex} {k : Nat} {s : Ws} {ks : List Rx} (h : a.rx = .node k s ks) : anyB [5] k = a.isAlt := by
  cases a <;> simp [Ex.rx] at h <;> obtain ⟨rfl, -⟩ := h <;> rfl
theorem br_two {g : Nat} (W : World) (hg : g = W.heap.size) : BytesAt (W.alloc (.cells #[.int .u8 4, .int .u8 5] 5)) (some ⟨g, 0, none⟩) [4, 5] := by
  subst hg
  refine ⟨by decide, .inr ⟨_, 0, rfl, by simp, fun i h => ?_⟩⟩
  match i, h with
  | 0, _ => simp
  | 1, _ => simp
theorem br_one {g : Nat} (W : World) (hg : g = W.heap.size) : BytesAt (W.alloc (.cells #[.int .u8 5] 5)) (some ⟨g, 0, none⟩) [5] := by
  subst hg
  refine ⟨by decide, .inr ⟨_, 0, rfl, by simp, fun i h => ?_⟩⟩
  match i, h with
  | 0, _ => simp
/-- The cells of a node that lies below B. -/
theorem cells_fr {B b' off : Nat} {w W : World} {k : Nat} {ta tb tc td : Nat} {al : Option Addr} {n cap : Nat} (hlo : b' < B) (hf : Below B w W)
    (h : w.cell? ⟨b', off, none⟩ = some (.int .u8 k) ∧ w.cell? ⟨b', off + 1, none⟩ = some (.int .u64 ta) ∧ w.cell? ⟨b', off + 2, none⟩ = some (.int .u64 tb) ∧ w.cell? ⟨b', off + 3, none⟩ = some (.int .u64 tc) ∧ w.cell? ⟨b', off + 4, none⟩ = some (.int .u64 td) ∧ w.cell? ⟨b', off + 5, none⟩ = some (.slice al n cap)) :
    W.cell? ⟨b', off, none⟩ = some (.int .u8 k) ∧ W.cell? ⟨b', off + 1, none⟩ = some (.int .u64 ta) ∧ W.cell? ⟨b', off + 2, none⟩ = some (.int .u64 tb) ∧ W.cell? ⟨b', off + 3, none⟩ = some (.int .u64 tc) ∧ W.cell? ⟨b', off + 4, none⟩ = some (.int .u64 td) ∧ W.cell? ⟨b', off + 5, none⟩ = some (.slice al n cap) := by
  obtain ⟨d0, d1, d2, d3, d4, d5⟩ := h
  have e := fun o => hf.cell (p := ⟨b', o, none⟩) hlo
  exact ⟨by rw [e]; exact d0, by rw [e]; exact d1, by rw [e]; exact d2, by rw [e]; exact d3, by rw [e]; exact d4, by rw [e]; exact d5⟩
set_option maxHeartbeats 2000000 in
theorem node_star {B N : Nat} (hGB : 1 < B) (ih : NodeC B N) (a : Ex) (hN : a.size ≤ N) (v : Value) (w : World) (b : Nat) (pre : List UInt8) (wa : a.Wf) (hT : Tab w) (hB : B ≤ w.heap.size) (hlen : pre.length + (Ex.star a).text.length ≤ 1000000000000) (hP : Pg B b pre w) (hR : ReAt (Lo B) w v (Ex.star a).rx) :
    Calls Tryd.prog 41 #[.pointer (some ⟨b, 0, none⟩), v] w (PgPost B b (pre ++ (Ex.star a).text) w) := by
  obtain ⟨_, _, al, cap, rfl, hcap, hmax, hrow⟩ := hR
  obtain ⟨b', off, hab, hblt, hlo, hnode⟩ := RowAt.kidOk hrow (i := 0) (by simp)
  subst hab
  simp only [List.getElem_cons_zero, Nat.zero_mul, Nat.add_zero] at hnode
  rw [text_star] at hlen ⊢
  have hit : a.item = roundL a.text (a.isSeq || a.isAlt) := rfl
  rw [hit] at hlen ⊢
  obtain ⟨ka, sa, ksa, hrx, -, -⟩ := rx_shape a
  have hnode' := hnode
  rw [hrx] at hnode'
  obtain ⟨ta, tb, tc, td⟩ := sa
  obtain ⟨bl, bcap, ⟨c0, c1, c2, c3, c4, c5⟩, hre⟩ := hnode'.read
  simp only at c0 c1 c2 c3 c4 c5
  rw [← hrx] at hre
  have HP := Lib.hid hP
  have KK := Lib.hid fun (br : List UInt8) (A : Option Addr) (c' : Nat) W (p : List UInt8) (q : Bool) (hq : anyB br ka = q) (hbl : br.length ≤ 1000) (hbr : BytesAt W A br) (hl : p.length + (roundL a.text q).length ≤ 1000000000000) (hf : Fr B b w W) (hp : Pg B b p W) => kid_any hGB ih a hN br A c' _ W b p q ka _ ksa hrx hq hbl hbr wa (hT.fr hGB hf) (hf.size hB) hl hp (hre.fr hB hf)
  have HQ := Lib.hid (any45 hrx)
  generalize (a.isSeq || a.isAlt) = q at *
  have hgb : w.heap.size ≠ b := fun h => by have := HP.out.lt; omega
  generalize a.text = T at *
  clear hrow hnode hnode' hre hrx hit hT hP ih
  simp only [List.length_append, List.length_cons, List.length_nil, Nat.zero_add] at hlen
  simp only [List.length_cons, List.length_nil, Nat.zero_add] at *
  go_enter Tryd.func41, Tryd.ntmps41
  go_wp2_with fail
  have hb0 := fun o o' => ((Below.refl _ w).alloc (Nat.le_refl _) o).alloc (by simp) o'
  refine (KK.out [4, 5] _ 2 _ pre q HQ.out (by decide) (br_two _ (by simp)) (by omega) (fr_below (hb0 _ _) hB) (HP.out.below (hb0 _ _))).mono ?_
  rintro e' w1 ⟨rfl, hp1, hf1⟩
  have P1 := Lib.hid hp1
  have F1 := Lib.hid ((fr_below (b := b) (hb0 _ _) hB).trans hf1)
  clear hp1 hf1 c0 c1 c2 c3 c4 c5 hb0
  go_wp2_with fail
  refine (pgByte B b _ 42 _ P1.out (by simp; omega) (F1.out.size hB)).mono ?_
  rintro e' w2 ⟨rfl, hp2, hf2⟩
  have P2 := Lib.hid hp2
  have F2 := Lib.hid (F1.out.trans hf2)
  clear hp2 hf2
  go_wp2
  go_end0
  exact ⟨rfl, by rw [← List.append_assoc]; exact P2.out, F2.out⟩
set_option maxHeartbeats 4000000 in
theorem node_seq {B N : Nat} (hGB : 1 < B) (ih : NodeC B N) (a c : Ex) (hN : a.size ≤ N) (hN' : c.size ≤ N) (v : Value) (w : World) (b : Nat) (pre : List UInt8) (wa : a.Wf) (wc : c.Wf) (hT : Tab w) (hB : B ≤ w.heap.size) (hlen : pre.length + (Ex.seq a c).text.length ≤ 1000000000000) (hP : Pg B b pre w) (hR : ReAt (Lo B) w v (Ex.seq a c).rx) :
    Calls Tryd.prog 41 #[.pointer (some ⟨b, 0, none⟩), v] w (PgPost B b (pre ++ (Ex.seq a c).text) w) := by
  obtain ⟨_, _, al, cap, rfl, hcap, hmax, hrow⟩ := hR
  obtain ⟨b', off, hab, hblt, hlo, hnode⟩ := RowAt.kidOk hrow (i := 0) (by simp)
  obtain ⟨b'', off'', hab', _, _, hnode2⟩ := RowAt.kidOk hrow (i := 1) (by simp)
  subst hab
  simp at hab'
  obtain ⟨rfl, rfl⟩ := hab'
  simp only [List.getElem_cons_zero, List.getElem_cons_succ, Nat.zero_mul, Nat.add_zero, Nat.one_mul] at hnode hnode2
  rw [text_seq] at hlen ⊢
  have hit : a.item = roundL a.text (a.isSeq || a.isAlt) := rfl
  have hit' : c.part = roundL c.text c.isAlt := rfl
  rw [hit, hit'] at hlen ⊢
  obtain ⟨ka, sa, ksa, hrx, -, -⟩ := rx_shape a
  obtain ⟨kc, sc, ksc, hrxc, -, -⟩ := rx_shape c
  rw [hrx] at hnode
  rw [hrxc] at hnode2
  obtain ⟨ta, tb, tc, td⟩ := sa
  obtain ⟨ta', tb', tc', td'⟩ := sc
  obtain ⟨bl, bcap, ⟨c0, c1, c2, c3, c4, c5⟩, hre⟩ := hnode.read
  obtain ⟨bl', bcap', hcc, hre'⟩ := hnode2.read
  simp only at c0 c1 c2 c3 c4 c5 hcc
  rw [← hrx] at hre
  rw [← hrxc] at hre'
  have HP := Lib.hid hP
  have KK := Lib.hid fun (br : List UInt8) (A : Option Addr) (c' : Nat) W (p : List UInt8) (q : Bool) (hq : anyB br ka = q) (hbl : br.length ≤ 1000) (hbr : BytesAt W A br) (hl : p.length + (roundL a.text q).length ≤ 1000000000000) (hf : Fr B b w W) (hp : Pg B b p W) => kid_any hGB ih a hN br A c' _ W b p q ka _ ksa hrx hq hbl hbr wa (hT.fr hGB hf) (hf.size hB) hl hp (hre.fr hB hf)
  have KC := Lib.hid fun (br : List UInt8) (A : Option Addr) (c' : Nat) W (p : List UInt8) (q : Bool) (hq : anyB br kc = q) (hbl : br.length ≤ 1000) (hbr : BytesAt W A br) (hl : p.length + (roundL c.text q).length ≤ 1000000000000) (hf : Fr B b w W) (hp : Pg B b p W) => kid_any hGB ih c hN' br A c' _ W b p q kc _ ksc hrxc hq hbl hbr wc (hT.fr hGB hf) (hf.size hB) hl hp (hre'.fr hB hf)
  have HC := Lib.hid fun W (hf : Fr B b w W) => cells_fr hlo hf.1 hcc
  have HQ := Lib.hid (any45 hrx)
  have HQ' := Lib.hid (any5 hrxc)
  generalize (a.isSeq || a.isAlt) = q at *
  generalize c.isAlt = q' at *
  have hgb : w.heap.size ≠ b := fun h => by have := HP.out.lt; omega
  generalize a.text = T at *
  generalize c.text = U at *
  clear hrow hnode hnode2 hre hre' hrx hrxc hit hit' hT hP ih hcc
  simp only [List.length_append] at hlen
  simp only [List.length_cons, List.length_nil, Nat.zero_add] at *
  go_enter Tryd.func41, Tryd.ntmps41
  go_wp2_with fail
  have hb0 := fun o o' => ((Below.refl _ w).alloc (Nat.le_refl _) o).alloc (by simp) o'
  refine (KK.out [4, 5] _ 2 _ pre q HQ.out (by decide) (br_two _ (by simp)) (by omega) (fr_below (hb0 _ _) hB) (HP.out.below (hb0 _ _))).mono ?_
  rintro e' w1 ⟨rfl, hp1, hf1⟩
  have hx := hf1.box ((Below.heap_alloc _ _ _ (by simp)).trans (blk_new w _)) hgb
  have P1 := Lib.hid hp1
  have F1 := Lib.hid ((fr_below (b := b) (hb0 _ _) hB).trans hf1)
  clear hp1 hf1 c0 c1 c2 c3 c4 c5 hb0
  obtain ⟨x0, x1, x2, x3, x4, x5, -⟩ := cellsR hx
  obtain ⟨c0, c1, c2, c3, c4, c5⟩ := HC.out _ F1.out
  have hw1 := hx
  go_wp2_with fail
  have hb1 := fun o => (Below.refl _ w1).alloc (Nat.le_refl _) o
  refine (KC.out [5] _ 1 _ _ q' HQ'.out (by decide) (br_one _ rfl) (by simp; omega) (F1.out.trans (fr_below (hb1 _) (F1.out.size hB))) (P1.out.below (hb1 _))).mono ?_
  rintro e' w3 ⟨rfl, hp3, hf3⟩
  have P3 := Lib.hid hp3
  have F3 := Lib.hid ((F1.out.trans (fr_below (hb1 _) (F1.out.size hB))).trans hf3)
  clear hp3 hf3 x0 x1 x2 x3 x4 x5 c0 c1 c2 c3 c4 c5 hx
  go_wp2
  go_end0
  exact ⟨rfl, by rw [← List.append_assoc]; exact P3.out, F3.out⟩
set_option maxHeartbeats 4000000 in
theorem node_alt {B N : Nat} (hGB : 1 < B) (ih : NodeC B N) (a c : Ex) (hN : a.size ≤ N) (hN' : c.size ≤ N) (v : Value) (w : World) (b : Nat) (pre : List UInt8) (wa : a.Wf) (wc : c.Wf) (hT : Tab w) (hB : B ≤ w.heap.size) (hlen : pre.length + (Ex.alt a c).text.length ≤ 1000000000000) (hP : Pg B b pre w) (hR : ReAt (Lo B) w v (Ex.alt a c).rx) :
    Calls Tryd.prog 41 #[.pointer (some ⟨b, 0, none⟩), v] w (PgPost B b (pre ++ (Ex.alt a c).text) w) := by
  obtain ⟨_, _, al, cap, rfl, hcap, hmax, hrow⟩ := hR
  obtain ⟨b', off, hab, hblt, hlo, hnode⟩ := RowAt.kidOk hrow (i := 0) (by simp)
  obtain ⟨b'', off'', hab', _, _, hnode2⟩ := RowAt.kidOk hrow (i := 1) (by simp)
  subst hab
  simp at hab'
  obtain ⟨rfl, rfl⟩ := hab'
  simp only [List.getElem_cons_zero, List.getElem_cons_succ, Nat.zero_mul, Nat.add_zero, Nat.one_mul] at hnode hnode2
  rw [text_alt] at hlen ⊢
  have hit : a.part = roundL a.text a.isAlt := rfl
  have hit' : c.text = roundL c.text false := rfl
  rw [hit] at hlen ⊢
  obtain ⟨ka, sa, ksa, hrx, -, -⟩ := rx_shape a
  obtain ⟨kc, sc, ksc, hrxc, -, -⟩ := rx_shape c
  rw [hrx] at hnode
  rw [hrxc] at hnode2
  obtain ⟨ta, tb, tc, td⟩ := sa
  obtain ⟨ta', tb', tc', td'⟩ := sc
  obtain ⟨bl, bcap, ⟨c0, c1, c2, c3, c4, c5⟩, hre⟩ := hnode.read
  obtain ⟨bl', bcap', hcc, hre'⟩ := hnode2.read
  simp only at c0 c1 c2 c3 c4 c5 hcc
  rw [← hrx] at hre
  rw [← hrxc] at hre'
  have HP := Lib.hid hP
  have KK := Lib.hid fun (br : List UInt8) (A : Option Addr) (c' : Nat) W (p : List UInt8) (q : Bool) (hq : anyB br ka = q) (hbl : br.length ≤ 1000) (hbr : BytesAt W A br) (hl : p.length + (roundL a.text q).length ≤ 1000000000000) (hf : Fr B b w W) (hp : Pg B b p W) => kid_any hGB ih a hN br A c' _ W b p q ka _ ksa hrx hq hbl hbr wa (hT.fr hGB hf) (hf.size hB) hl hp (hre.fr hB hf)
  have KC := Lib.hid fun (br : List UInt8) (A : Option Addr) (c' : Nat) W (p : List UInt8) (q : Bool) (hq : anyB br kc = q) (hbl : br.length ≤ 1000) (hbr : BytesAt W A br) (hl : p.length + (roundL c.text q).length ≤ 1000000000000) (hf : Fr B b w W) (hp : Pg B b p W) => kid_any hGB ih c hN' br A c' _ W b p q kc _ ksc hrxc hq hbl hbr wc (hT.fr hGB hf) (hf.size hB) hl hp (hre'.fr hB hf)
  have HC := Lib.hid fun W (hf : Fr B b w W) => cells_fr hlo hf.1 hcc
  have HQ := Lib.hid (any5 hrx)
  generalize a.isAlt = q at *
  have hgb : w.heap.size ≠ b := fun h => by have := HP.out.lt; omega
  generalize a.text = T at *
  generalize c.text = U at *
  clear hrow hnode hnode2 hre hre' hrx hrxc hit hit' hT hP ih hcc
  simp only [List.length_append, List.length_cons] at hlen
  simp only [List.length_cons, List.length_nil, Nat.zero_add] at *
  go_enter Tryd.func41, Tryd.ntmps41
  go_wp2_with fail
  have hb0 := fun o o' => ((Below.refl _ w).alloc (Nat.le_refl _) o).alloc (by simp) o'
  refine (KK.out [5] _ 1 _ pre q HQ.out (by decide) (br_one _ (by simp)) (by omega) (fr_below (hb0 _ _) hB) (HP.out.below (hb0 _ _))).mono ?_
  rintro e' w1 ⟨rfl, hp1, hf1⟩
  have hx := hf1.box ((Below.heap_alloc _ _ _ (by simp)).trans (blk_new w _)) hgb
  have P1 := Lib.hid hp1
  have F1 := Lib.hid ((fr_below (b := b) (hb0 _ _) hB).trans hf1)
  clear hp1 hf1 c0 c1 c2 c3 c4 c5 hb0
  go_wp2_with fail
  refine (pgByte B b _ 124 _ P1.out (by simp; omega) (F1.out.size hB)).mono ?_
  rintro e' w2 ⟨rfl, hp2, hf2⟩
  have P2 := Lib.hid hp2
  have F2 := Lib.hid (F1.out.trans hf2)
  replace hx := hf2.box hx hgb
  clear hp2 hf2
  obtain ⟨x0, x1, x2, x3, x4, x5, -⟩ := cellsR hx
  obtain ⟨c0, c1, c2, c3, c4, c5⟩ := HC.out _ F2.out
  go_wp2_with fail
  refine (KC.out [] none 0 _ _ false rfl (by decide) ⟨by decide, .inl rfl⟩ (by have hU : (roundL U false).length = U.length := rfl; simp only [List.length_append, List.length_cons, List.length_nil]; omega) F2.out P2.out).mono ?_
  rintro e' w3 ⟨rfl, hp3, hf3⟩
  have P3 := Lib.hid hp3
  have F3 := Lib.hid (F2.out.trans hf3)
  clear hp3 hf3 x0 x1 x2 x3 x4 x5 c0 c1 c2 c3 c4 c5 hx
  go_wp2
  go_end0
  refine ⟨rfl, ?_, F3.out⟩
  have e : pre ++ (roundL T q ++ 124 :: U) = pre ++ roundL T q ++ [124] ++ roundL U false := by simp [roundL]
  rw [e]; exact P3.out
theorem node_any {B : Nat} (hGB : 1 < B) (N : Nat) : NodeC B N := by
  induction N with
  | zero =>
    intro e he
    have : 0 < e.size := by cases e <;> simp [Ex.size] <;> omega
    omega
  | succ N ih =>
    intro e he v w b pre we hT hB hlen hP hR
    cases e with
    | empty => exact node_lit 1 _ (.inl ⟨rfl, rfl⟩) v w b pre hB hlen hP hR
    | eps => exact node_lit 2 _ (.inr ⟨rfl, rfl⟩) v w b pre hB hlen hP hR
    | cls s => exact node_cls hGB s we.1 v w b pre hT hB hlen hP hR
    | seq a c =>
      have hz : (Ex.seq a c).size = 1 + a.size + c.size := rfl
      exact node_seq hGB ih a c (by omega) (by omega) v w b pre we.1 we.2 hT hB hlen hP hR
    | alt a c =>
      have hz : (Ex.alt a c).size = 1 + a.size + c.size := rfl
      exact node_alt hGB ih a c (by omega) (by omega) v w b pre we.1 we.2 hT hB hlen hP hR
    | star a =>
      have hz : (Ex.star a).size = 1 + a.size := rfl
      exact node_star hGB ih a (by omega) v w b pre we hT hB hlen hP hR
end Go.Proofs.YtdkdgbiagjflgaaDoor
/- show.Text, show.Lines and show.Fits. -/
namespace Go.Proofs.YtdkdgbiagjflgaaDoor
open Go.RowKit
def WholePost (B b : Nat) (pre T : List UInt8) (q : Bool) (w : World) (e : Ending) (w' : World) : Prop := e = .returned (.tuple #[]) ∧ Pg B b (pre ++ T) w' ∧ Fr B b w w' ∧ (q = false → Below w.heap.size w w')
set_option maxHeartbeats 2000000 in
theorem whole_any {B : Nat} (hGB : 1 < B) (r : Rx) (v : Value) (w : World) (b : Nat) (pre : List UInt8) (hT : Tab w) (hB : B ≤ w.heap.size) (hlen : pre.length ≤ 900000000000) (hP : Pg B b pre w) (hR : ReAt (Lo B) w v r) :
    Calls Tryd.prog 25 #[.pointer (some ⟨b, 0, none⟩), v] w (WholePost B b pre (textX r) (mayR r) w) := by
  have HP := Lib.hid hP
  have hgb : w.heap.size ≠ b := fun h => by have := HP.out.lt; omega
  have hmx : mayR r = true → ∃ e : Ex, e.rx = r ∧ e.Wf ∧ textX r = e.text ∧ e.text.length ≤ 4100000 := fun hm => by
    obtain ⟨e, he, h1, h2⟩ := may_ex hR hm
    subst he
    have := text_length e
    exact ⟨e, rfl, h1, textX_yes hm, by omega⟩
  have KN := Lib.hid fun (hm : mayR r = true) W (hf : Fr B b w W) (hp : Pg B b pre W) => show Calls Tryd.prog 41 #[.pointer (some ⟨b, 0, none⟩), v] W (PgPost B b (pre ++ textX r) W) from by
    obtain ⟨e, rfl, h1, h2, h3⟩ := hmx hm
    rw [h2]
    exact node_any hGB e.size e (Nat.le_refl _) v W b pre h1 (hT.fr hGB hf) (hf.size hB) (by omega) hp (hR.fr hB hf)
  obtain ⟨x0, x1, x2, x3, x4, xl, xn, xc, rfl⟩ := cells_re hR
  have KM := Lib.hid fun W (h : Below w.heap.size w W) (g : Nat) (hg : g = W.heap.size) => mayX [r] (some ⟨g, 0, none⟩) 1 (W.alloc (.cells #[.int .u8 x0, .int .u64 x1, .int .u64 x2, .int .u64 x3, .int .u64 x4, .slice xl xn xc] 30)) (by simp) (by subst hg; exact row_new (hR.below h))
  have HNO := Lib.hid (fun h : mayR r = false => textX_no h)
  have e1 : [r].all mayR = mayR r := by simp
  rw [e1] at KM
  clear hmx hT hP hR e1
  generalize textX r = T at *
  generalize mayR r = q at *
  go_enter Tryd.func25, Tryd.ntmps25
  go_wp2_with fail
  have hb0 := fun o o' => ((Below.refl _ w).alloc (Nat.le_refl _) o).alloc (by simp) o'
  refine (KM.out _ ((Below.refl _ w).alloc (Nat.le_refl _) _) _ (by simp)).mono ?_
  rintro e' w1 ⟨rfl, hb1⟩
  have hx := (hb1.block w.heap.size (by simp; omega)).trans ((Below.heap_alloc _ _ _ (by simp)).trans (blk_new w _))
  have hb := (hb0 _ _).trans (hb1.mono (by simp; omega))
  clear hb0 hb1
  obtain ⟨y0, y1, y2, y3, y4, y5, -⟩ := cellsR hx
  have F1 := Lib.hid (fr_below (b := b) hb hB)
  have P1 := Lib.hid (HP.out.below hb)
  have HB := Lib.hid hb
  clear hb
  cases q with
  | true =>
    go_wp2_with fail
    refine (KN.out trivial _ F1.out P1.out).mono ?_
    rintro e' w2 ⟨rfl, hp2, hf2⟩
    have P2 := Lib.hid hp2
    have F2 := Lib.hid (F1.out.trans hf2)
    clear hp2 hf2 y0 y1 y2 y3 y4 y5 hx
    go_wp2
    go_end0
    exact ⟨rfl, P2.out, F2.out, fun h => by simp at h⟩
  | false =>
    clear y0 y1 y2 y3 y4 y5 hx
    go_wp2
    go_end0
    exact ⟨rfl, by rw [HNO.out trivial, List.append_nil]; exact P1.out, F1.out, fun _ => HB.out⟩
set_option maxHeartbeats 2000000 in
theorem showText : TextC := by
  intro ok r v w hT _ hR
  have hml := textX_length hR
  have hmt := may_text hR
  obtain ⟨x0, x1, x2, x3, x4, xl, xn, xc, rfl⟩ := cells_re hR
  have hre : ∀ o, ReAt (Lo (w.alloc o).heap.size) (w.alloc o) (.agg #[.int .u8 x0, .int .u64 x1, .int .u64 x2, .int .u64 x3, .int .u64 x4, .slice xl xn xc]) r := fun o =>
    (hR.imp (ok' := Lo (w.alloc o).heap.size) fun b hb _ => by show b < (w.alloc o).heap.size; simp; omega).below ((Below.refl _ w).alloc (Nat.le_refl _) o)
  have hTa : ∀ o, Tab (w.alloc o) := fun o => hT.go ((Below.refl _ w).alloc (Nat.le_refl _) o)
  have hG := hT.1
  have K := Lib.hid fun (o : Obj) (g : Nat) (hg : g = (w.alloc o).heap.size) => show Calls Tryd.prog 25 #[.pointer (some ⟨g, 0, none⟩), .agg #[.int .u8 x0, .int .u64 x1, .int .u64 x2, .int .u64 x3, .int .u64 x4, .slice xl xn xc]] ((w.alloc o).alloc (.cells #[.pointer none, .slice none 0 0] 51)) (WholePost (w.alloc o).heap.size g [] (textX r) (mayR r) ((w.alloc o).alloc (.cells #[.pointer none, .slice none 0 0] 51))) from by
    subst hg
    have hb := (Below.refl (w.alloc o).heap.size (w.alloc o)).alloc (Nat.le_refl _) (.cells #[.pointer none, .slice none 0 0] 51)
    exact whole_any (by simp; omega) r _ _ _ [] ((hTa o).go hb) hb.size (by simp) (Lib.IsBuilderF.of (Lib.fresh_isBuilder _ _ _)) ((hre o).below hb)
  clear hR hre hT hTa
  generalize textX r = T at *
  generalize mayR r = q at *
  have HMT := Lib.hid hmt
  clear hmt
  go_enter Tryd.func10, Tryd.ntmps10
  go_wp2_with fail
  refine (K.out _ _ (by simp)).mono ?_
  rintro e' w1 ⟨rfl, hp, hf, hb⟩
  have hbw : Below w.heap.size w w1 := (((Below.refl _ w).alloc (Nat.le_refl _) _).alloc (by simp) _).trans (hf.1.mono (by simp))
  have hs1 : (w.alloc (.cells #[.int .u8 x0, .int .u64 x1, .int .u64 x2, .int .u64 x3, .int .u64 x4, .slice xl xn xc] 30)).heap.size ≤ w1.heap.size := Nat.le_trans (by simp) hf.1.size
  have HP := Lib.hid hp
  cases q with
  | true =>
    have hne : T ≠ [] := by have := HMT.out; simpa using this
    have KS := Lib.hid (pg_string_some _ _ _ _ HP.out hne)
    clear hb hp hf HMT HP K
    go_wp2_with fail
    refine KS.out.mono ?_
    rintro e' w2 ⟨rfl, hb2⟩
    have HB := Lib.hid (hbw.trans (hb2.mono (by simp)))
    clear hb2
    go_wp2
    go_ret
    exact ⟨rfl, HB.out⟩
  | false =>
    have hT0 : T = [] := by have := HMT.out; simpa using this
    subst hT0
    have hb' := hb rfl
    have hbk := (hb'.block (w.heap.size + 1) (by simp)).trans (blk_at _ _ (by simp))
    have KS := Lib.hid (pg_string_none _ _ hbk)
    clear hb hp hf hb' hbk HP K
    go_wp2_with fail
    refine KS.out.mono ?_
    rintro e' w2 ⟨rfl, hb2⟩
    have HB := Lib.hid (hbw.trans (hb2.mono hbw.size))
    clear hb2
    go_wp2
    go_ret
    exact ⟨rfl, HB.out⟩
end Go.Proofs.YtdkdgbiagjflgaaDoor
/- quilllaw05.ShowApart, walked. -/
namespace Go.Proofs.YtdkdgbiagjflgaaDoor
open Go.RowKit
/-- Two blocks of one's own, and all that was there. -/
def Boxes (w W : World) (X Y : Obj) : Prop := Below w.heap.size w W ∧ W.heap[w.heap.size]? = some X ∧ W.heap[w.heap.size + 1]? = some Y
theorem Boxes.go {w W W' : World} {X Y : Obj} (h : Boxes w W X Y) (hb : Below W.heap.size W W') : Boxes w W' X Y := by
  obtain ⟨h1, h2, h3⟩ := h
  exact ⟨h1.trans (hb.mono h1.size), (hb.block _ (Array.getElem?_eq_some_iff.1 h2).1).trans h2, (hb.block _ (Array.getElem?_eq_some_iff.1 h3).1).trans h3⟩
theorem Boxes.new (w : World) (X Y : Obj) : Boxes w ((w.alloc X).alloc Y) X Y :=
  ⟨((Below.refl _ w).alloc (Nat.le_refl _) _).alloc (by simp) _, (Below.heap_alloc _ _ _ (by simp)).trans (blk_new w _), blk_at _ _ (by simp)⟩
theorem great_small {r : Rx} (h : r.size ≤ 1000000000 → false = greatB r 200) (hs : r.size ≤ 1048576) : r.size ≤ 200 := by
  have := (h (by omega)).symm
  simp [greatB] at this; omega
theorem text_same {ok ok' : Nat → Prop} {w w' : World} {v u : Value} {a b : Rx} (h : ReAt ok w v a) (h' : ReAt ok' w' u b) (ha : mayR a = true) (hb : mayR b = true) : textX a = textX b ↔ sameR a b = true := by
  obtain ⟨e, rfl, we, _⟩ := may_ex h ha
  obtain ⟨f, rfl, wf, _⟩ := may_ex h' hb
  rw [textX_yes ha, textX_yes hb, sameR_iff]
  exact ⟨fun h => by rw [text_inj we wf h], fun h => by rw [Ex.rx_inj e f h]⟩
set_option maxHeartbeats 2000000 in
theorem showApart_walk (hText : TextC) (hAwake : AwakeC) {ok : Nat → Prop} (a b : Rx) (v u : Value) (w : World) (hT : Tab w) (h : ReAt ok w v a) (h' : ReAt ok w u b) (ha : a.size ≤ 1048576) (hb : b.size ≤ 1048576) :
    Calls Tryd.prog 4 #[v, u] w fun e w' => e = .returned (.bool true) ∧ Below w.heap.size w w' := by
  obtain ⟨x0, x1, x2, x3, x4, xl, xn, xc, rfl⟩ := cells_re h
  obtain ⟨y0, y1, y2, y3, y4, yl, yn, yc, rfl⟩ := cells_re h'
  have G1 := Lib.hid fun W (hb : Below w.heap.size w W) => great_any a 200 _ W (h.below hb) (by decide)
  have G2 := Lib.hid fun W (hb : Below w.heap.size w W) => great_any b 200 _ W (h'.below hb) (by decide)
  have hm1 : (a.size ≤ 1000000000 → false = greatB a 200) → a.size ≤ 200 := fun h => great_small h ha
  have hm2 : (b.size ≤ 1000000000 → false = greatB b 200) → b.size ≤ 200 := fun h => great_small h hb
  have MM1 := Lib.hid fun (hz : a.size ≤ 200) W (hb : Below w.heap.size w W) => refMay_any a _ W (by omega) (h.below hb)
  have MM2 := Lib.hid fun (hz : b.size ≤ 200) W (hb : Below w.heap.size w W) => refMay_any b _ W (by omega) (h'.below hb)
  have TT1 := Lib.hid fun (hz : a.size ≤ 200) W (hb : Below w.heap.size w W) => hText ok a _ W (hT.go hb) (by omega) (h.below hb)
  have TT2 := Lib.hid fun (hz : b.size ≤ 200) W (hb : Below w.heap.size w W) => hText ok b _ W (hT.go hb) (by omega) (h'.below hb)
  have S0 := Lib.hid fun W (hb : Below w.heap.size w W) => refSame_any a.size a b (Nat.le_refl _) _ _ W (h.below hb) (h'.below hb)
  have KA := Lib.hid fun W (hb : Below w.heap.size w W) => hAwake W (hT.go hb)
  have AP := Lib.hid (fun h1 h2 => text_same h h' (a := a) (b := b) h1 h2)
  have HM1 := Lib.hid hm1
  have HM2 := Lib.hid hm2
  clear h h' hT hText hAwake hm1 hm2
  generalize sameR a b = z at *
  generalize textX a = T at *
  generalize textX b = U at *
  generalize mayR a = m1 at *
  generalize mayR b = m2 at *
  go_enter Tryd.func4, Tryd.ntmps4
  go_wp2_with fail
  have B := Lib.hid (Boxes.new w (.cells #[.int .u8 x0, .int .u64 x1, .int .u64 x2, .int .u64 x3, .int .u64 x4, .slice xl xn xc] 30) (.cells #[.int .u8 y0, .int .u64 y1, .int .u64 y2, .int .u64 y3, .int .u64 y4, .slice yl yn yc] 30))
  obtain ⟨d0, d1, d2, d3, d4, d5, -⟩ := cellsR B.out.2.1
  obtain ⟨g0, g1, g2, g3, g4, g5, -⟩ := cellsR B.out.2.2
  refine (G1.out _ B.out.1).mono ?_
  rintro e w' ⟨⟨p, rfl, hp1⟩, hb⟩
  replace B := Lib.hid (B.out.go hb)
  clear hb d0 d1 d2 d3 d4 d5 g0 g1 g2 g3 g4 g5
  obtain ⟨d0, d1, d2, d3, d4, d5, -⟩ := cellsR B.out.2.1
  obtain ⟨g0, g1, g2, g3, g4, g5, -⟩ := cellsR B.out.2.2
  have HP1 := Lib.hid hp1
  clear hp1
  cases p with
  | true =>
    go_wp2_with fail
    refine (KA.out _ B.out.1).mono ?_
    rintro e w2 ⟨rfl, hb⟩
    have hB := (B.out.go hb).1
    clear hb d0 d1 d2 d3 d4 d5 g0 g1 g2 g3 g4 g5
    go_wp2
    go_ret
    exact ⟨rfl, hB⟩
  | false =>
    go_wp2_with fail
    refine (G2.out _ B.out.1).mono ?_
    rintro e w' ⟨⟨p, rfl, hp2⟩, hb⟩
    replace B := Lib.hid (B.out.go hb)
    clear hb d0 d1 d2 d3 d4 d5 g0 g1 g2 g3 g4 g5
    obtain ⟨d0, d1, d2, d3, d4, d5, -⟩ := cellsR B.out.2.1
    obtain ⟨g0, g1, g2, g3, g4, g5, -⟩ := cellsR B.out.2.2
    have HP2 := Lib.hid hp2
    clear hp2
    cases p with
    | true =>
      go_wp2_with fail
      refine (KA.out _ B.out.1).mono ?_
      rintro e w2 ⟨rfl, hb⟩
      have hB := (B.out.go hb).1
      clear hb d0 d1 d2 d3 d4 d5 g0 g1 g2 g3 g4 g5
      go_wp2
      go_ret
      exact ⟨rfl, hB⟩
    | false =>
      have M1 := Lib.hid (MM1.out (HM1.out HP1.out))
      have T1 := Lib.hid (TT1.out (HM1.out HP1.out))
      have M2 := Lib.hid (MM2.out (HM2.out HP2.out))
      have T2 := Lib.hid (TT2.out (HM2.out HP2.out))
      clear MM1 MM2 TT1 TT2 HM1 HM2 HP1 HP2 G1 G2
      go_wp2_with fail
      refine (M1.out _ B.out.1).mono ?_
      rintro e w' ⟨rfl, hb⟩
      replace B := Lib.hid (B.out.go hb)
      clear hb d0 d1 d2 d3 d4 d5 g0 g1 g2 g3 g4 g5
      obtain ⟨d0, d1, d2, d3, d4, d5, -⟩ := cellsR B.out.2.1
      obtain ⟨g0, g1, g2, g3, g4, g5, -⟩ := cellsR B.out.2.2
      cases m1 with
      | false =>
        go_wp2_with fail
        refine (KA.out _ B.out.1).mono ?_
        rintro e w2 ⟨rfl, hb⟩
        have hB := (B.out.go hb).1
        clear hb d0 d1 d2 d3 d4 d5 g0 g1 g2 g3 g4 g5
        go_wp2
        go_ret
        exact ⟨rfl, hB⟩
      | true =>
        go_wp2_with fail
        refine (M2.out _ B.out.1).mono ?_
        rintro e w' ⟨rfl, hb⟩
        replace B := Lib.hid (B.out.go hb)
        clear hb d0 d1 d2 d3 d4 d5 g0 g1 g2 g3 g4 g5
        obtain ⟨d0, d1, d2, d3, d4, d5, -⟩ := cellsR B.out.2.1
        obtain ⟨g0, g1, g2, g3, g4, g5, -⟩ := cellsR B.out.2.2
        cases m2 with
        | false =>
          go_wp2_with fail
          refine (KA.out _ B.out.1).mono ?_
          rintro e w2 ⟨rfl, hb⟩
          have hB := (B.out.go hb).1
          clear hb d0 d1 d2 d3 d4 d5 g0 g1 g2 g3 g4 g5
          go_wp2
          go_ret
          exact ⟨rfl, hB⟩
        | true =>
          obtain ⟨w0, hw0⟩ : ∃ w0, w0 = w' := ⟨_, rfl⟩
          subst hw0
          have dq0 : ∀ p : Bel w0, p.x.cell? ⟨w.heap.size, 0, none⟩ = some (.int .u8 x0) := bel_cell (Array.getElem?_eq_some_iff.1 B.out.2.1).1 d0
          have dq1 : ∀ p : Bel w0, p.x.cell? ⟨w.heap.size, 1, none⟩ = some (.int .u64 x1) := bel_cell (Array.getElem?_eq_some_iff.1 B.out.2.1).1 d1
          have dq2 : ∀ p : Bel w0, p.x.cell? ⟨w.heap.size, 2, none⟩ = some (.int .u64 x2) := bel_cell (Array.getElem?_eq_some_iff.1 B.out.2.1).1 d2
          have dq3 : ∀ p : Bel w0, p.x.cell? ⟨w.heap.size, 3, none⟩ = some (.int .u64 x3) := bel_cell (Array.getElem?_eq_some_iff.1 B.out.2.1).1 d3
          have dq4 : ∀ p : Bel w0, p.x.cell? ⟨w.heap.size, 4, none⟩ = some (.int .u64 x4) := bel_cell (Array.getElem?_eq_some_iff.1 B.out.2.1).1 d4
          have dq5 : ∀ p : Bel w0, p.x.cell? ⟨w.heap.size, 5, none⟩ = some (.slice xl xn xc) := bel_cell (Array.getElem?_eq_some_iff.1 B.out.2.1).1 d5
          have gq0 : ∀ p : Bel w0, p.x.cell? ⟨w.heap.size + 1, 0, none⟩ = some (.int .u8 y0) := bel_cell (Array.getElem?_eq_some_iff.1 B.out.2.2).1 g0
          have gq1 : ∀ p : Bel w0, p.x.cell? ⟨w.heap.size + 1, 1, none⟩ = some (.int .u64 y1) := bel_cell (Array.getElem?_eq_some_iff.1 B.out.2.2).1 g1
          have gq2 : ∀ p : Bel w0, p.x.cell? ⟨w.heap.size + 1, 2, none⟩ = some (.int .u64 y2) := bel_cell (Array.getElem?_eq_some_iff.1 B.out.2.2).1 g2
          have gq3 : ∀ p : Bel w0, p.x.cell? ⟨w.heap.size + 1, 3, none⟩ = some (.int .u64 y3) := bel_cell (Array.getElem?_eq_some_iff.1 B.out.2.2).1 g3
          have gq4 : ∀ p : Bel w0, p.x.cell? ⟨w.heap.size + 1, 4, none⟩ = some (.int .u64 y4) := bel_cell (Array.getElem?_eq_some_iff.1 B.out.2.2).1 g4
          have gq5 : ∀ p : Bel w0, p.x.cell? ⟨w.heap.size + 1, 5, none⟩ = some (.slice yl yn yc) := bel_cell (Array.getElem?_eq_some_iff.1 B.out.2.2).1 g5
          clear d0 d1 d2 d3 d4 d5 g0 g1 g2 g3 g4 g5
          have hne := bel_ne w0
          have KT1 := Lib.hid fun W (h : Below w0.heap.size w0 W) => T1.out W (B.out.1.trans (h.mono B.out.1.size))
          have KT2 := Lib.hid fun W (h : Below w0.heap.size w0 W) => T2.out W (B.out.1.trans (h.mono B.out.1.size))
          have KS := Lib.hid fun W (h : Below w0.heap.size w0 W) => S0.out W (B.out.1.trans (h.mono B.out.1.size))
          have KW := Lib.hid fun W (h : Below w0.heap.size w0 W) => KA.out W (B.out.1.trans (h.mono B.out.1.size))
          have hap : T = U ↔ z = true := AP.out (by first | exact rfl | exact trivial) (by first | exact rfl | exact trivial)
          have HAP := Lib.hid hap
          clear hap
          go_wp2_with fail
          by_cases hTU : T = U
          · have hz : z = true := HAP.out.1 hTU
            subst hTU hz
            refine wp_region_bel (by kernel_rfl) (by kernel_rfl) ?_
            repeat (quiet_step (first | (go_at_call 10; with_reducible exact bel_of (KT1.out _ (Bel.h _))) | (go_at_call 10; with_reducible exact bel_of (KT2.out _ (Bel.h _))) | (go_at_call 15; with_reducible exact bel_of (KS.out _ (Bel.h _))) | (go_at_call 8; with_reducible exact bel_of (KW.out _ (Bel.h _)))))
            refine wpQuiet_nil ?_
            intro _ hw'
            obtain ⟨⟨x, hbx⟩, hw''⟩ := hw'
            subst hw''
            go_wp2
            go_ret
            exact ⟨rfl, B.out.1.trans (hbx.mono B.out.1.size)⟩
          · have hz : z = false := by
              cases z with
              | false => rfl
              | true => exact absurd (HAP.out.2 rfl) hTU
            subst hz
            have e0 : (T == U) = false := by simpa using hTU
            refine wp_region_bel (by kernel_rfl) (by kernel_rfl) ?_
            repeat (quiet_step (first | (go_at_call 10; with_reducible exact bel_of (KT1.out _ (Bel.h _))) | (go_at_call 10; with_reducible exact bel_of (KT2.out _ (Bel.h _))) | (go_at_call 15; with_reducible exact bel_of (KS.out _ (Bel.h _))) | (go_at_call 8; with_reducible exact bel_of (KW.out _ (Bel.h _)))))
            refine wpQuiet_nil ?_
            intro _ hw'
            obtain ⟨⟨x, hbx⟩, hw''⟩ := hw'
            subst hw''
            go_wp2
            go_ret
            exact ⟨rfl, B.out.1.trans (hbx.mono B.out.1.size)⟩
end Go.Proofs.YtdkdgbiagjflgaaDoor
/- quilllaw05.ShowTexts, walked. -/
namespace Go.Proofs.YtdkdgbiagjflgaaDoor
open Go.RowKit
def textsInv (l : List Rx) (w : World) (v x y : Value) (wr : World) : Prop := ∃ (i : Nat) (A : List UInt8) (q : Bool), i ≤ l.length ∧ y = .int .i64 i ∧ v = .string ⟨A.toArray⟩ ∧ x = .bool q ∧ A = linesX (l.take i) ∧ A.length ≤ i * 4200000 ∧ q = fitsX (l.take i) ∧ Below w.heap.size w wr
set_option maxHeartbeats 4000000 in
theorem showTexts_walk (hText : TextC) (hLines : LinesC) (hFits : FitsC) (hAwake : AwakeC) {ok : Nat → Prop} (al : Option Addr) (cap : Nat) (l : List Rx) (w : World) (hT : Tab w) (hl : l.length < 2199023255552) (hR : RowAt ok w al l) (hsz : Rx.sizes l ≤ 1048576) :
    Calls Tryd.prog 3 #[.slice al l.length cap] w fun e w' => e = .returned (.bool true) ∧ Below w.heap.size w w' := by
  have KG := Lib.hid (greatAll_any l 200 al cap w hR hl (by decide))
  have KA := Lib.hid fun W (hb : Below w.heap.size w W) => hAwake W (hT.go hb)
  have HR := Lib.hid hR
  have HT := Lib.hid hT
  have HTX := Lib.hid hText
  have HLN := Lib.hid hLines
  have HFT := Lib.hid hFits
  clear hR hT hText hLines hFits hAwake
  go_enter Tryd.func3, Tryd.ntmps3
  go_wp2_with fail
  refine KG.out.mono ?_
  rintro e w1 ⟨g, rfl, h20, hg, hb1⟩
  have HGE := Lib.hid (hg (by omega))
  have H20 := Lib.hid h20
  clear hg h20
  cases g with
  | true =>
    go_wp2_with fail
    refine (KA.out _ hb1).mono ?_
    rintro e w2 ⟨rfl, hb2⟩
    go_wp2
    go_ret
    exact ⟨rfl, hb1.trans (hb2.mono hb1.size)⟩
  | false =>
    have hl20 : l.length ≤ 20 := H20.out rfl
    have hsmall : ∀ r ∈ l, r.size ≤ 200 := by
      intro r hr
      have h1 := HGE.out.symm
      simp only [greatAllB, Bool.or_eq_false_iff, List.any_eq_false] at h1
      have := h1.2 r hr
      simp [greatB] at this; omega
    have HSM := Lib.hid hsmall
    clear hsmall
    go_wp2
    go_loopw [3, 4, 5] (fun v x y wr => textsInv l w v x y wr) (fun _ _ y _ => l.length - (intOf y).toNat)
    case atStart => exact ⟨0, [], true, Nat.zero_le _, rfl, rfl, rfl, by simp [linesX], by simp, by simp [fitsX], hb1⟩
    case round =>
      obtain ⟨i, A, q, hi, rfl, rfl, rfl, hA, hAl, hq, hb⟩ := hrel
      have HA := Lib.hid hA
      have HQ := Lib.hid hq
      clear hA hq
      by_cases hlt : i < l.length
      · obtain ⟨b, off, hab, hblt, hnode⟩ := HR.out.kid hlt
        subst hab
        have hsm := HSM.out l[i] (List.getElem_mem hlt)
        have ht1 := linesX_take l i hlt
        have ht2 := fitsX_take l i hlt
        rw [← HA.out] at ht1
        rw [← HQ.out] at ht2
        generalize l[i] = kid at *
        obtain ⟨k', ⟨ta, tb, tc, td⟩, ks'⟩ := kid
        obtain ⟨al', cap', hcc, hre⟩ := hnode.read
        have HCC := Lib.hid fun W (h : Below w.heap.size w W) => show (W.cell? ⟨b, off + i * 6, none⟩ = some (.int .u8 k') ∧ W.cell? ⟨b, off + i * 6 + 1, none⟩ = some (.int .u64 ta) ∧ W.cell? ⟨b, off + i * 6 + 2, none⟩ = some (.int .u64 tb) ∧ W.cell? ⟨b, off + i * 6 + 3, none⟩ = some (.int .u64 tc) ∧ W.cell? ⟨b, off + i * 6 + 4, none⟩ = some (.int .u64 td) ∧ W.cell? ⟨b, off + i * 6 + 5, none⟩ = some (.slice al' ks'.length cap')) from by
          obtain ⟨d0, d1, d2, d3, d4, d5⟩ := hcc
          have e := fun o => h.cell (p := ⟨b, o, none⟩) hblt
          exact ⟨by rw [e]; exact d0, by rw [e]; exact d1, by rw [e]; exact d2, by rw [e]; exact d3, by rw [e]; exact d4, by rw [e]; exact d5⟩
        have K1 := Lib.hid fun W (h : Below w.heap.size w W) => refTextX _ _ W (Nat.le_trans hsm (by decide)) (hre.below h)
        have K2 := Lib.hid fun W (h : Below w.heap.size w W) => HTX.out _ _ _ W (HT.out.go h) (Nat.le_trans hsm (by decide)) (hre.below h)
        have hlen := textX_length hre
        rw [may_text hre] at ht2
        generalize textX (Rx.node k' ⟨ta, tb, tc, td⟩ ks') = T at *
        have HT1 := Lib.hid ht1
        have HT2 := Lib.hid ht2
        obtain ⟨c0, c1, c2, c3, c4, c5⟩ := HCC.out _ hb
        clear hnode hre hcc ht1 ht2
        have q1 : (i : Int) < (l.length : Int) := by omega
        go_wp2_with fail
        refine (K1.out _ hb).mono ?_
        rintro e w2 ⟨rfl, hb2⟩
        replace hb := hb.trans (hb2.mono hb.size)
        clear hb2 c0 c1 c2 c3 c4 c5
        obtain ⟨c0, c1, c2, c3, c4, c5⟩ := HCC.out _ hb
        go_wp2_with fail
        refine (K2.out _ hb).mono ?_
        rintro e w3 ⟨rfl, hb2⟩
        replace hb := hb.trans (hb2.mono hb.size)
        clear hb2 c0 c1 c2 c3 c4 c5
        have m1 : ¬ (9223372036854775807 < T.length + 1) := by omega
        have m2 : ¬ (9223372036854775807 < A.length + (T.length + 1)) := by omega
        have fin : (ByteArray.mk A.toArray ++ (ByteArray.mk T.toArray ++ ByteArray.mk [10].toArray)) = ⟨(A ++ (T ++ [10])).toArray⟩ := by rw [bytes_app, bytes_app]
        have FIN := Lib.hid fin
        clear fin
        cases q with
        | true =>
          by_cases hT0 : T = []
          · subst hT0
            have HF := Lib.hid (show false = fitsX (l.take (i + 1)) from by rw [HT2.out]; rfl)
            go_wp2
            exact ⟨⟨i + 1, A ++ ([] ++ [10]), _, by omega, by go_num, congrArg Value.string FIN.out, rfl, HT1.out.symm, by simp; omega, HF.out, hb⟩, by simp [intOf]; omega⟩
          · have t0 : T.isEmpty = false := by simpa using hT0
            have hf : decide ((T.length : Int) ≤ 65536) = fitsX (l.take (i + 1)) := by
              rw [HT2.out, Bool.true_and, decide_eq_true hT0, Bool.true_and]
              exact decide_eq_decide.2 ⟨fun h => by omega, fun h => by omega⟩
            have HF := Lib.hid hf
            clear hf
            go_wp2
            exact ⟨⟨i + 1, A ++ (T ++ [10]), _, by omega, by go_num, congrArg Value.string FIN.out, rfl, HT1.out.symm, by simp; omega, HF.out, hb⟩, by simp [intOf]; omega⟩
        | false =>
          go_wp2
          exact ⟨⟨i + 1, A ++ (T ++ [10]), false, by omega, by go_num, congrArg Value.string FIN.out, rfl, HT1.out.symm, by simp; omega, by rw [HT2.out]; rfl, hb⟩, by simp [intOf]; omega⟩
      · have he : l.take i = l := List.take_of_length_le (by omega)
        rw [he] at HA HQ
        have hbig : ∀ r ∈ l, r.size ≤ 1000000 := fun r hr => Nat.le_trans (HSM.out r hr) (by decide)
        have KL := HLN.out _ l al cap wr (HT.out.go hb) hl20 hbig (HR.out.below hb)
        rw [← HA.out] at KL
        have KL' := Lib.hid KL
        have KF := Lib.hid fun W (h : Below w.heap.size w W) => HFT.out _ l al cap W (HT.out.go h) hl20 hbig (HR.out.below h)
        rw [← HQ.out] at KF
        have q1 : ¬ (i : Int) < (l.length : Int) := by omega
        clear KL he hbig
        go_wp2_with fail
        refine KL'.out.mono ?_
        rintro e w2 ⟨rfl, hb2⟩
        replace hb := hb.trans (hb2.mono hb.size)
        clear hb2
        have e1 : (q == q) = true := by simp
        go_wp2_with fail
        refine (KF.out _ hb).mono ?_
        rintro e w3 ⟨rfl, hb2⟩
        replace hb := hb.trans (hb2.mono hb.size)
        clear hb2
        go_wp2_with fail
        refine (KA.out _ hb).mono ?_
        rintro e w4 ⟨rfl, hb2⟩
        have hB := hb.trans (hb2.mono hb.size)
        clear hb hb2
        go_wp2
        go_ret
        exact ⟨rfl, hB⟩
end Go.Proofs.YtdkdgbiagjflgaaDoor
/- show.Lines and show.Fits. -/
namespace Go.Proofs.YtdkdgbiagjflgaaDoor
open Go.RowKit
theorem fits_one {ok : Nat → Prop} {w : World} {v : Value} {r : Rx} (h : ReAt ok w v r) : (mayR r && decide ((textX r).length ≤ 65536)) = !(decide ((textX r).length = 0) || decide (65536 < (textX r).length)) := by
  rw [may_text h]
  by_cases h0 : textX r = []
  · simp [h0]
  · have h1 : (textX r).length ≠ 0 := by simpa using h0
    simp only [decide_eq_true h0, Bool.true_and, decide_eq_false h1, Bool.false_or, ne_eq]
    by_cases h2 : (textX r).length ≤ 65536
    · simp [h2]
    · simp [h2]; omega
set_option maxHeartbeats 2000000 in
theorem fitsClosure {ok : Nat → Prop} (r : Rx) (v : Value) (w : World) (hT : Tab w) (hbig : r.size ≤ 1000000) (h : ReAt ok w v r) :
    Calls Tryd.prog 29 #[v] w fun e w' => e = .returned (.bool (!(mayR r && decide ((textX r).length ≤ 65536)))) ∧ Below w.heap.size w w' := by
  rw [fits_one h]
  have hml := textX_length h
  obtain ⟨x0, x1, x2, x3, x4, xl, xn, xc, rfl⟩ := cells_re h
  have K := Lib.hid fun W (hb : Below w.heap.size w W) => showText ok r _ W (hT.go hb) hbig (h.below hb)
  clear h hT
  generalize textX r = T at *
  go_enter Tryd.func29, Tryd.ntmps29
  go_wp2_with fail
  refine (K.out _ ((Below.refl _ w).alloc (Nat.le_refl _) _)).mono ?_
  rintro e' w1 ⟨rfl, hb1⟩
  have HB := Lib.hid (((Below.refl _ w).alloc (Nat.le_refl _) (.cells #[.int .u8 x0, .int .u64 x1, .int .u64 x2, .int .u64 x3, .int .u64 x4, .slice xl xn xc] 30)).trans (hb1.mono (by simp)))
  clear hb1
  by_cases h0 : T.length = 0
  · have t0 : ((T.length : Int) == 0) = true := by simp [h0]
    go_wp2
    go_ret
    exact ⟨by simp [h0], HB.out⟩
  · have hne : T ≠ [] := fun h => h0 (by simp [h])
    have t0 : ((T.length : Int) == 0) = false := by simpa using hne
    by_cases h1 : 65536 < T.length
    · have t1 : decide ((65536 : Int) < (T.length : Int)) = true := by simp; omega
      go_wp2
      go_ret
      exact ⟨by simp [h1], HB.out⟩
    · have t1 : decide ((65536 : Int) < (T.length : Int)) = false := by simp; omega
      go_wp2
      go_ret
      exact ⟨by simp [h1]; exact hne, HB.out⟩
noncomputable def fitB (r : Rx) : Bool := mayR r && decide ((textX r).length ≤ 65536)
def fitsInv (l : List Rx) (w : World) (y : Value) (wr : World) : Prop := ∃ i : Nat, i ≤ l.length ∧ y = .int .i64 i ∧ (l.take i).all fitB = true ∧ Below w.heap.size w wr
def FitsIdx (q : Bool) (w : World) (e : Ending) (w' : World) : Prop := ∃ x : Int, decide (0 ≤ x) = !q ∧ e = .returned (.int .i64 x) ∧ Below w.heap.size w w'
set_option maxHeartbeats 4000000 in
theorem fitsIndex {ok : Nat → Prop} (l : List Rx) (al : Option Addr) (cap : Nat) (w : World) (hT : Tab w) (hl : l.length ≤ 20) (hbig : ∀ r ∈ l, r.size ≤ 1000000) (hR : RowAt ok w al l) :
    Calls Tryd.prog 43 #[.slice al l.length cap, .func (.func 29) #[] #[]] w (FitsIdx (l.all fitB) w) := by
  have HR := Lib.hid hR
  have HT := Lib.hid hT
  have HBG := Lib.hid hbig
  clear hR hT hbig
  go_enter Tryd.func43, Tryd.ntmps43
  go_wp2
  go_loopw [8] (fun y wr => fitsInv l w y wr) (fun y _ => l.length - (intOf y).toNat)
  case atStart => exact ⟨0, Nat.zero_le _, rfl, by simp, Below.refl _ _⟩
  case round =>
    obtain ⟨i, hi, rfl, hmay, hb⟩ := hrel
    have HY := Lib.hid hmay
    clear hmay
    by_cases hlt : i < l.length
    · obtain ⟨b, off, hab, hblt, hnode⟩ := HR.out.kid hlt
      subst hab
      have hkid := NodeAt.below hb _ hblt hnode
      have htk : (l.take (i + 1)).all fitB = ((l.take i).all fitB && fitB l[i]) := by
        rw [List.take_succ_eq_append_getElem hlt, List.all_append]; simp
      have hno : fitB l[i] = false → l.all fitB = false := fun h => by
        rw [List.all_eq_false]; exact ⟨l[i], List.getElem_mem hlt, by rw [h]; simp⟩
      have hbg := HBG.out l[i] (List.getElem_mem hlt)
      clear hnode
      generalize l[i] = kid at *
      obtain ⟨k', ⟨ta, tb, tc, td⟩, ks'⟩ := kid
      obtain ⟨al', cap', ⟨c0, c1, c2, c3, c4, c5⟩, hre⟩ := hkid.read
      simp only at c0 c1 c2 c3 c4 c5
      have K := Lib.hid (show Calls Tryd.prog 29 _ wr fun e w' => e = .returned (.bool (!(fitB (Rx.node k' ⟨ta, tb, tc, td⟩ ks')))) ∧ Below wr.heap.size wr w' from fitsClosure _ _ wr (HT.out.go hb) hbg hre)
      generalize fitB (Rx.node k' ⟨ta, tb, tc, td⟩ ks') = q at *
      have T1 := Lib.hid htk
      have T2 := Lib.hid hno
      clear hkid hre htk hno hbg
      have q1 : (i : Int) < (l.length : Int) := by omega
      go_wp2_with fail
      refine K.out.mono ?_
      rintro e w1 ⟨rfl, hb1⟩
      replace hb := hb.trans (hb1.mono hb.size)
      clear hb1 c0 c1 c2 c3 c4 c5
      cases q with
      | true =>
        go_wp2
        exact ⟨⟨i + 1, by omega, by go_num, by rw [T1.out, HY.out]; rfl, hb⟩, by simp [intOf]; omega⟩
      | false =>
        go_wp2
        go_ret
        exact ⟨i, by rw [T2.out trivial]; simp, rfl, hb⟩
    · have he : l.take i = l := List.take_of_length_le (by omega)
      rw [he] at HY
      go_wp2
      go_ret
      exact ⟨-1, by rw [HY.out]; rfl, rfl, hb⟩
theorem fitsContains {ok : Nat → Prop} (l : List Rx) (al : Option Addr) (cap : Nat) (w : World) (hT : Tab w) (hl : l.length ≤ 20) (hbig : ∀ r ∈ l, r.size ≤ 1000000) (hR : RowAt ok w al l) :
    Calls Tryd.prog 28 #[.slice al l.length cap, .func (.func 29) #[] #[]] w fun e w' => e = .returned (.bool (!l.all fitB)) ∧ Below w.heap.size w w' := by
  have K := Lib.hid (fitsIndex l al cap w hT hl hbig hR)
  clear hR
  generalize l.all fitB = q at *
  go_enter Tryd.func28, Tryd.ntmps28
  go_wp2_with fail
  refine K.out.mono ?_
  rintro e w1 ⟨x, hx, rfl, hb⟩
  have HX := Lib.hid hx
  clear hx
  go_wp2
  go_ret
  exact ⟨by rw [← HX.out]; rfl, hb⟩
theorem showFits : FitsC := by
  intro ok l al cap w hT hl hbig hR
  have K := Lib.hid (fitsContains l al cap w hT hl hbig hR)
  have e : fitsX l = l.all fitB := rfl
  rw [e]
  clear hR hT hbig e
  generalize l.all fitB = q at *
  go_enter Tryd.func12, Tryd.ntmps12
  go_wp2_with fail
  refine K.out.mono ?_
  rintro e w1 ⟨rfl, hb⟩
  go_wp2
  go_ret
  exact ⟨by simp, hb⟩
end Go.Proofs.YtdkdgbiagjflgaaDoor
/- show.Lines. -/
namespace Go.Proofs.YtdkdgbiagjflgaaDoor
open Go.RowKit
def linesInv (l : List Rx) (w : World) (y : Value) (wr : World) : Prop := ∃ (i : Nat) (A : List UInt8), i ≤ l.length ∧ y = .int .i64 i ∧ A = linesX (l.take i) ∧ A.length ≤ i * 4200000 ∧ Pg w.heap.size w.heap.size A wr ∧ Below w.heap.size w wr ∧ (i = 0 → wr.heap[w.heap.size]? = some (.cells #[.pointer none, .slice none 0 0] 51 (0, 0)))
set_option maxHeartbeats 4000000 in
theorem showLines : LinesC := by
  intro ok l al cap w hT hl hbig hR
  have HR := Lib.hid (hR.imp (ok' := Lo w.heap.size) fun b hb _ => hb)
  have HT := Lib.hid hT
  have HBG := Lib.hid hbig
  have hG := hT.1
  clear hR hT hbig
  go_enter Tryd.func11, Tryd.ntmps11
  go_wp2
  go_loopw [8] (fun y wr => linesInv l w y wr) (fun y _ => l.length - (intOf y).toNat)
  case atStart => exact ⟨0, [], Nat.zero_le _, rfl, by simp [linesX], by simp, Lib.IsBuilderF.of (Lib.fresh_isBuilder _ _ w), (Below.refl _ _).alloc (Nat.le_refl _) _, fun _ => blk_new w _⟩
  case round =>
    obtain ⟨i, A, hi, rfl, hA, hAl, hP, hb, hfr⟩ := hrel
    have HA := Lib.hid hA
    have HP := Lib.hid hP
    have HFR := Lib.hid hfr
    clear hA hP hfr
    by_cases hlt : i < l.length
    · obtain ⟨b, off, hab, hblt, hlo, hnode⟩ := HR.out.kidOk hlt
      subst hab
      have hbg := HBG.out l[i] (List.getElem_mem hlt)
      have ht1 := linesX_take l i hlt
      rw [← HA.out] at ht1
      generalize l[i] = kid at *
      obtain ⟨k', ⟨ta, tb, tc, td⟩, ks'⟩ := kid
      obtain ⟨al', cap', hcc, hre⟩ := hnode.read
      simp only at hcc
      have hml := textX_length hre
      obtain ⟨c0, c1, c2, c3, c4, c5⟩ := cells_fr (off := off + i * 6) hlo hb hcc
      have T1 := Lib.hid ht1
      have hsz := hb.size
      have hbw : b < wr.heap.size := Nat.lt_of_lt_of_le hblt hsz
      have KW := Lib.hid fun (o : Obj) => show Calls Tryd.prog 25 #[.pointer (some ⟨w.heap.size, 0, none⟩), .agg #[.int .u8 k', .int .u64 ta, .int .u64 tb, .int .u64 tc, .int .u64 td, .slice al' ks'.length cap']] (wr.alloc o) (WholePost w.heap.size w.heap.size A (textX (.node k' ⟨ta, tb, tc, td⟩ ks')) (mayR (.node k' ⟨ta, tb, tc, td⟩ ks')) (wr.alloc o)) from by
        have hb1 := (Below.refl wr.heap.size wr).alloc (Nat.le_refl _) o
        have hb2 := hb.trans (hb1.mono hsz)
        exact whole_any hG _ _ _ _ A (HT.out.go hb2) hb2.size (by omega) (HP.out.below hb1) (hre.go (kept_lo (Nat.le_refl _) hb2))
      clear hnode ht1 hcc hre hbg
      generalize textX (.node k' ⟨ta, tb, tc, td⟩ ks') = T at *
      generalize mayR (.node k' ⟨ta, tb, tc, td⟩ ks') = q at *
      have q1 : (i : Int) < (l.length : Int) := by omega
      go_wp2_with fail
      refine (KW.out _).mono ?_
      rintro e' w1 ⟨rfl, hp1, hf1, -⟩
      have P1 := Lib.hid hp1
      have hb1 := (hb.alloc hsz (.cells #[.int .u8 k', .int .u64 ta, .int .u64 tb, .int .u64 tc, .int .u64 td, .slice al' ks'.length cap'] 30)).trans hf1.1
      have hs1 := hb1.size
      clear hp1 hf1 c0 c1 c2 c3 c4 c5 KW
      go_wp2_with fail
      refine (pgByte w.heap.size w.heap.size _ 10 _ P1.out (by simp; omega) hs1).mono ?_
      rintro e' w2 ⟨rfl, hp2, hf2⟩
      have P2 := Lib.hid hp2
      have hb2 := hb1.trans hf2.1
      clear hp2 hf2 hb1
      go_wp2
      exact ⟨⟨i + 1, A ++ (T ++ [10]), by omega, by go_num, T1.out.symm, by simp; omega, by rw [← List.append_assoc]; exact P2.out, hb2, fun h => by omega⟩, by simp [intOf]; omega⟩
    · have he : l.take i = l := List.take_of_length_le (by omega)
      rw [he] at HA
      have hsz := hb.size
      have q1 : ¬ (i : Int) < (l.length : Int) := by omega
      by_cases hi0 : i = 0
      · have hl0 : l = [] := List.eq_nil_of_length_eq_zero (by omega)
        have KS := Lib.hid (pg_string_none _ _ (HFR.out hi0))
        have HL := Lib.hid (show linesX l = [] from by rw [hl0]; simp [linesX])
        clear HFR HP HA hl0
        go_wp2_with fail
        refine KS.out.mono ?_
        rintro e' w2 ⟨rfl, hb2⟩
        have HB := Lib.hid (hb.trans (hb2.mono hsz))
        clear hb2
        go_wp2
        go_ret
        exact ⟨by rw [HL.out]; rfl, HB.out⟩
      · have hA0 : A ≠ [] := by
          have hp : 0 < l.length := by omega
          rw [HA.out]
          unfold linesX
          intro h
          have := List.flatMap_eq_nil_iff.1 h l[0] (List.getElem_mem hp)
          simp at this
        have KS := Lib.hid (pg_string_some _ _ _ _ HP.out hA0)
        clear HFR HP hA0
        go_wp2_with fail
        refine KS.out.mono ?_
        rintro e' w2 ⟨rfl, hb2⟩
        have HB := Lib.hid (hb.trans hb2)
        clear hb2
        go_wp2
        go_ret
        exact ⟨by rw [← HA.out]; rfl, HB.out⟩
end Go.Proofs.YtdkdgbiagjflgaaDoor
/- What the walk of quilllaw05.ShowTurns wants: blocks that hold expressions; three put together in two ways. -/
namespace Go.Proofs.YtdkdgbiagjflgaaDoor
open Go.RowKit
/-- Three blocks of one's own, and all that was there. -/
def Boxes3 (w W : World) (X Y Z : Obj) : Prop := Below w.heap.size w W ∧ W.heap[w.heap.size]? = some X ∧ W.heap[w.heap.size + 1]? = some Y ∧ W.heap[w.heap.size + 1 + 1]? = some Z
theorem Boxes3.go {w W W' : World} {X Y Z : Obj} (h : Boxes3 w W X Y Z) (hb : Below W.heap.size W W') : Boxes3 w W' X Y Z := by
  obtain ⟨h1, h2, h3, h4⟩ := h
  exact ⟨h1.trans (hb.mono h1.size), (hb.block _ (Array.getElem?_eq_some_iff.1 h2).1).trans h2, (hb.block _ (Array.getElem?_eq_some_iff.1 h3).1).trans h3, (hb.block _ (Array.getElem?_eq_some_iff.1 h4).1).trans h4⟩
theorem Boxes3.new (w : World) (X Y Z : Obj) : Boxes3 w (((w.alloc X).alloc Y).alloc Z) X Y Z :=
  ⟨(((Below.refl _ w).alloc (Nat.le_refl _) _).alloc (by simp) _).alloc (by simp; omega) _, (Below.heap_alloc _ _ _ (by simp; omega)).trans ((Below.heap_alloc _ _ _ (by simp)).trans (blk_new w _)), (Below.heap_alloc _ _ _ (by simp)).trans (blk_at _ _ (by simp)), blk_at _ _ (by simp)⟩
theorem heldB {wo wl : World} {o : Obj} (h : Below (wo.alloc o).heap.size (wo.alloc o) wl) : wl.heap[wo.heap.size]? = some o := (h.block _ (by simp)).trans (blk_new wo o)
theorem heldC {w0 wo wl : World} {o : Obj} (h : Below (w0.alloc o).drew.heap.size (w0.alloc o).drew wo) (h' : Below wo.heap.size wo wl) : wl.heap[w0.heap.size]? = some o :=
  (h'.block _ (Nat.lt_of_lt_of_le (show w0.heap.size < (w0.alloc o).drew.heap.size by simp [World.drew]) h.size)).trans ((h.block _ (show w0.heap.size < (w0.alloc o).drew.heap.size by simp [World.drew])).trans (blk_new w0 o))
theorem heldD {w0 wo wl : World} {o : Obj} (h : Below (w0.drew.alloc o).heap.size (w0.drew.alloc o) wo) (h' : Below wo.heap.size wo wl) : wl.heap[w0.heap.size]? = some o :=
  (h'.block _ (Nat.lt_of_lt_of_le (show w0.drew.heap.size < (w0.drew.alloc o).heap.size by simp) h.size)).trans ((h.block _ (show w0.drew.heap.size < (w0.drew.alloc o).heap.size by simp)).trans (blk_new w0.drew o))
theorem bel_first0 {w0 wo : World} (h : Below w0.drew.heap.size w0.drew wo) : Below w0.heap.size w0 wo := (Below.refl _ w0).drew.trans h
theorem bel_first1 {w0 wo : World} {o : Obj} (h : Below (w0.drew.alloc o).heap.size (w0.drew.alloc o) wo) : Below w0.heap.size w0 wo := ((Below.refl _ w0).drew.alloc (Nat.le_refl _) o).trans (h.mono (show w0.drew.heap.size ≤ (w0.drew.alloc o).heap.size by simp))
theorem bel_first2 {w0 wo : World} {o : Obj} (h : Below (w0.alloc o).drew.heap.size (w0.alloc o).drew wo) : Below w0.heap.size w0 wo := ((Below.refl _ w0).alloc (Nat.le_refl _) o).drew.trans (h.mono (by simp [World.drew]))
theorem bel_second {w0 wo wl : World} (h : Below w0.heap.size w0 wo) (h' : Below wo.heap.size wo wl) : Below w0.heap.size w0 wl := h.trans (h'.mono h.size)
theorem bel_second' {w0 wo wl : World} {o : Obj} (h : Below w0.heap.size w0 wo) (h' : Below (wo.alloc o).heap.size (wo.alloc o) wl) : Below w0.heap.size w0 wl := (h.alloc h.size o).trans (h'.mono (by have := h.size; simp; omega))
/-- Which blocks the first one's rows lie in. -/
def Nb (A B C b : Nat) : Prop := (Lo A b ∨ B ≤ b) ∧ b < C
theorem nb_lo {A n C b : Nat} (h : Lo A b) (hC : A ≤ C) : Nb A n C b := ⟨.inl h, Nat.lt_of_lt_of_le h hC⟩
theorem two_first {A : Nat} {W1 wo : World} {v : Value} {r : Rx} (hv : ReAt (fun b => Lo A b ∨ W1.heap.size ≤ b) wo v r) : ∃ n1, n1 = W1.heap.size ∧ ReAt (Nb A n1 wo.heap.size) wo v r := ⟨_, rfl, hv.imp fun _ hb h => ⟨h, hb⟩⟩
theorem bel_put {w w' : World} {B g : Nat} (h : Below B w w') (hg : B ≤ g) (y0 y1 y2 y3 y4 y5 : Value) : Below B w ((((((w'.setCell ⟨g, 0, none⟩ y0).setCell ⟨g, 1, none⟩ y1).setCell ⟨g, 2, none⟩ y2).setCell ⟨g, 3, none⟩ y3).setCell ⟨g, 4, none⟩ y4).setCell ⟨g, 5, none⟩ y5) := putB h hg y0 y1 y2 y3 y4 y5
/-- A block holds an expression; all that was there is as it was. -/
def Held (r : Rx) (w0 : World) (s : Value) (wc : World) : Prop := ∃ (g : Nat) (p0 p1 p2 p3 p4 : Int) (pl : Option Addr) (pq pc : Nat), s = .pointer (some ⟨g, 0, none⟩) ∧ wc.heap[g]? = some (.cells #[.int .u8 p0, .int .u64 p1, .int .u64 p2, .int .u64 p3, .int .u64 p4, .slice pl pq pc] 30) ∧ ReAt (fun _ => True) wc (.agg #[.int .u8 p0, .int .u64 p1, .int .u64 p2, .int .u64 p3, .int .u64 p4, .slice pl pq pc]) r ∧ Below w0.heap.size w0 wc
theorem great_60 {r : Rx} (h : r.size ≤ 1000000000 → false = greatB r 60) (hs : r.size ≤ 1048576) : r.size ≤ 60 := by
  have := (h (by omega)).symm
  simp [greatB] at this; omega
theorem held_new {r : Rx} {w0 wl : World} {ok : Nat → Prop} {p0 p1 p2 p3 p4 : Int} {pl : Option Addr} {pq pc : Nat} (hv : ReAt ok wl (.agg #[.int .u8 p0, .int .u64 p1, .int .u64 p2, .int .u64 p3, .int .u64 p4, .slice pl pq pc]) r) (hb : Below w0.heap.size w0 wl) :
    Held r w0 (.pointer (some ⟨wl.heap.size, 0, none⟩)) (wl.alloc (.cells #[.int .u8 p0, .int .u64 p1, .int .u64 p2, .int .u64 p3, .int .u64 p4, .slice pl pq pc] 30)) :=
  ⟨_, p0, p1, p2, p3, p4, pl, pq, pc, rfl, blk_new wl _, (hv.imp (ok' := fun _ => True) fun _ _ _ => trivial).below ((Below.refl _ wl).alloc (Nat.le_refl _) _), hb.alloc hb.size _⟩
theorem held_put {r : Rx} {w0 wl : World} {ok : Nat → Prop} {g : Nat} {x0 x1 x2 x3 x4 x5 : Value} {p0 p1 p2 p3 p4 : Int} {pl : Option Addr} {pq pc : Nat} (hg : wl.heap[g]? = some (.cells #[x0, x1, x2, x3, x4, x5] 30)) (hok : ∀ b, ok b → b ≠ g) (hg0 : w0.heap.size ≤ g) (hv : ReAt ok wl (.agg #[.int .u8 p0, .int .u64 p1, .int .u64 p2, .int .u64 p3, .int .u64 p4, .slice pl pq pc]) r) (hb : Below w0.heap.size w0 wl) :
    Held r w0 (.pointer (some ⟨g, 0, none⟩)) ((((((wl.setCell ⟨g, 0, none⟩ (.int .u8 p0)).setCell ⟨g, 1, none⟩ (.int .u64 p1)).setCell ⟨g, 2, none⟩ (.int .u64 p2)).setCell ⟨g, 3, none⟩ (.int .u64 p3)).setCell ⟨g, 4, none⟩ (.int .u64 p4)).setCell ⟨g, 5, none⟩ (.slice pl pq pc)) := by
  refine ⟨g, p0, p1, p2, p3, p4, pl, pq, pc, rfl, putR hg _ _ _ _ _ _, ?_, bel_put hb hg0 _ _ _ _ _ _⟩
  refine hv.go ⟨?_, fun b _ h2 => ⟨trivial, ?_⟩⟩
  · simp [World.setCell]
  · have hne : b ≠ g := hok b h2
    simp [World.setCell, Array.getElem?_modify, Ne.symm hne]
theorem okB {A n : Nat} {wo : World} {o : Obj} (b : Nat) (h : Nb A n wo.heap.size b ∨ (wo.alloc o).heap.size ≤ b) : b ≠ wo.heap.size := by
  rcases h with h | h
  · exact Nat.ne_of_lt h.2
  · simp at h; omega
theorem okA {w0 wo : World} {n : Nat} {o : Obj} (hn : n = (w0.alloc o).drew.heap.size) (hs : (w0.alloc o).drew.heap.size ≤ wo.heap.size) (b : Nat) (h : Nb w0.heap.size n wo.heap.size b ∨ wo.heap.size ≤ b) : b ≠ w0.heap.size := by
  have h1 : (w0.alloc o).drew.heap.size = w0.heap.size + 1 := by show (w0.alloc o).heap.size = _; simp
  rcases h with ⟨h | h, _⟩ | h
  · exact Nat.ne_of_lt h
  · omega
  · omega
/-- The kind that the law takes. -/
def KindAt (s : Value) (kk : Nat) : Prop := s = .int .u8 kk ∧ (kk = 4 ∨ kk = 5)
theorem turns_ex (kk : Nat) (hk : kk = 4 ∨ kk = 5) (a b c : Ex) (wa : a.Wf) (wb : b.Wf) (wc : c.Wf) : ∃ L R : Ex, L.rx = .node kk Ws.nil [.node kk Ws.nil [a.rx, b.rx], c.rx] ∧ R.rx = .node kk Ws.nil [a.rx, .node kk Ws.nil [b.rx, c.rx]] ∧ L.Wf ∧ R.Wf ∧
    L.size = a.size + b.size + c.size + 2 ∧ R.size = a.size + b.size + c.size + 2 ∧ L.text ≠ R.text ∧ ∃ t, L.text = 40 :: t := by
  rcases hk with rfl | rfl
  · have hL : (Ex.seq (.seq a b) c).Wf := ⟨⟨wa, wb⟩, wc⟩
    have hR : (Ex.seq a (.seq b c)).Wf := ⟨wa, wb, wc⟩
    refine ⟨.seq (.seq a b) c, .seq a (.seq b c), rfl, rfl, hL, hR, by simp [Ex.size]; omega, by simp [Ex.size]; omega, fun h => ?_, ?_⟩
    · have h1 := text_inj hL hR h
      simp only [Ex.seq.injEq] at h1
      have := congrArg Ex.size h1.1
      simp [Ex.size] at this; omega
    · rw [text_seq, item_seq]
      exact ⟨_, rfl⟩
  · have hL : (Ex.alt (.alt a b) c).Wf := ⟨⟨wa, wb⟩, wc⟩
    have hR : (Ex.alt a (.alt b c)).Wf := ⟨wa, wb, wc⟩
    refine ⟨.alt (.alt a b) c, .alt a (.alt b c), rfl, rfl, hL, hR, by simp [Ex.size]; omega, by simp [Ex.size]; omega, fun h => ?_, ?_⟩
    · have h1 := text_inj hL hR h
      simp only [Ex.alt.injEq] at h1
      have := congrArg Ex.size h1.1
      simp [Ex.size] at this; omega
    · rw [text_alt]
      exact ⟨_, rfl⟩
theorem ex_may {e : Ex} (we : e.Wf) (hs : e.size ≤ 2000) : mayR e.rx = true := by
  unfold mayR mayN
  rw [good_ex e we, Ex.size_rx, decide_eq_true hs]; rfl
end Go.Proofs.YtdkdgbiagjflgaaDoor
