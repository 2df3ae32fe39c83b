/- set.runLength and set.runText. -/
import Derived.Test.YtdkdgbiagjflgaaDoorSetI
import Derived.Test.YtdkdgbiagjflgaaDoorSetJ
import Derived.Deep.RegionHeld3
namespace Go.Proofs.YtdkdgbiagjflgaaDoor
open Go.RowKit
/-- Bytes in memory, as numbers. -/
def NatsAt (w : World) (a : Option Addr) (l : List Nat) : Prop := (∀ x ∈ l, x < 256) ∧ l.length ≤ maxLen ∧ (l = [] ∨ ∃ b off, a = some ⟨b, off, none⟩ ∧ b < w.heap.size ∧ ∀ i (h : i < l.length), w.cell? ⟨b, off + i, none⟩ = some (.int .u8 (l[i] : Nat)))
theorem natsAt_of {w : World} {a : Option Addr} {l : List Nat} (h : BytesAt w a (u8s l)) (hl : ∀ x ∈ l, x < 256) : NatsAt w a l := by
  refine ⟨hl, by simpa [u8s_length] using h.1, ?_⟩
  rcases h.2 with h0 | ⟨b, off, rfl, hb, hc⟩
  · left; simpa [u8s] using h0
  · refine .inr ⟨b, off, rfl, hb, fun i hi => ?_⟩
    have := hc i (by rw [u8s_length]; exact hi)
    rw [this]
    have h2 := hl _ (List.getElem_mem hi)
    simp [u8s]
    omega
theorem NatsAt.below {w w' : World} {a : Option Addr} {l : List Nat} (h : NatsAt w a l) (hb : Below w.heap.size w w') : NatsAt w' a l := by
  obtain ⟨h1, h2, h3⟩ := h
  refine ⟨h1, h2, ?_⟩
  rcases h3 with h3 | ⟨b, off, rfl, hlt, hc⟩
  · exact .inl h3
  · exact .inr ⟨b, off, rfl, Nat.lt_of_lt_of_le hlt hb.size, fun i h => by rw [hb.cell (p := ⟨b, off + i, none⟩) hlt]; exact hc i h⟩
def runInv (x : Nat) (l : List Nat) (w : World) (i : Value) (wr : World) : Prop := ∃ k m : Nat, k ≤ l.length ∧ i = .int .i64 (1 + k : Nat) ∧ (∀ j, j < k → l[j]? = some (x + 1 + j)) ∧ wr = w.drewN m
theorem pair_le {x : Nat} {l : List Nat} (h : (x :: l).Pairwise (· < ·)) (k : Nat) (hk : k < l.length) : x + k + 1 ≤ l[k] := by
  induction l generalizing x k with
  | nil => simp at hk
  | cons y t ih =>
    have h0 : x < y := by simp at h; exact h.1.1
    cases k with
    | zero => simp; omega
    | succ k =>
      have := ih (x := y) (h.tail) k (by simpa using hk)
      simp at this ⊢; omega
set_option maxHeartbeats 2000000 in
theorem runLength_any (a : Option Addr) (x : Nat) (l : List Nat) (cap : Nat) (w : World) (h : NatsAt w a (x :: l)) (hp : (x :: l).Pairwise (· < ·)) :
    Calls Tryd.prog 61 #[.slice a (l.length + 1) cap] w fun e w' => e = .returned (.int .i64 (1 + runFrom x l : Nat)) ∧ ∃ n, w' = w.drewN n := by
  have hS := Lib.hid h
  have HP := Lib.hid hp
  have hl := h.2.1
  unfold maxLen at hl
  simp at hl
  clear h hp
  go_enter Tryd.func61, Tryd.ntmps61
  go_wp2
  go_loopw [3] (fun i wr => runInv x l w i wr) (fun i _ => l.length + 1 - (intOf i).toNat)
  case atStart => exact ⟨0, 0, Nat.zero_le _, rfl, fun j hj => by omega, rfl⟩
  case round =>
    obtain ⟨k, m, hk, rfl, hall, rfl⟩ := hrel
    have HA := Lib.hid hall
    clear hall
    obtain ⟨b, off, hab, hblt, hc⟩ : ∃ b off, a = some ⟨b, off, none⟩ ∧ b < w.heap.size ∧ ∀ i (h : i < (x :: l).length), w.cell? ⟨b, off + i, none⟩ = some (.int .u8 ((x :: l)[i] : Nat)) := by
      rcases hS.out.2.2 with h | h
      · simp at h
      · exact h
    subst hab
    have hx256 : x < 256 := hS.out.1 x (List.mem_cons_self ..)
    have c0 : (w.drewN m).cell? ⟨b, off, none⟩ = some (.int .u8 x) := by
      have := hc 0 (by simp)
      simpa using this
    obtain ⟨n, hn⟩ : ∃ n, n = 1 + k := ⟨_, rfl⟩
    have hn1 : n ≤ 1 + k := by omega
    have hn2 : 1 + k ≤ n := by omega
    rw [← hn]
    have HN := Lib.hid hn
    clear hn
    by_cases hlt : k < l.length
    · have c1 : (w.drewN m).cell? ⟨b, off + n, none⟩ = some (.int .u8 (l[k] : Nat)) := by
        have := hc (k + 1) (by simpa using hlt)
        rw [HN.out, Nat.add_comm 1]
        simpa using this
      have hy256 : l[k] < 256 := hS.out.1 _ (List.mem_cons_of_mem _ (List.getElem_mem hlt))
      have hge := pair_le HP.out k hlt
      have hd1 : decide ((n : Int) < (l.length : Int) + 1) = true := by simp; omega
      have hd2 : decide (n < l.length + 1) = true := by simp; omega
      clear hc
      generalize hy : l[k] = y at *
      have HY := Lib.hid hy
      clear hy
      generalize hW : w.drewN m = W at *
      have HW := Lib.hid hW
      clear hW
      by_cases he : y = x + n
      · have d1 : ((y : Int) - (x : Int) == (n : Int)) = true := by simp; omega
        have hle : (x : Int) ≤ (y : Int) := by omega
        have HE := Lib.hid he
        clear he
        go_wp2_with fail
        go_quiet (fail)
        go_wp2
        refine ⟨⟨k + 1, m + nq, by omega, ?_, ?_, ?_⟩, by simp [intOf]; omega⟩
        · rw [HN.out]; go_num
        · intro j hj
          by_cases e : j = k
          · subst e
            rw [List.getElem?_eq_getElem hlt, HY.out, HE.out, HN.out]; congr 1; omega
          · exact HA.out j (by omega)
        · rw [← HW.out, World.drewN_drewN]
      · have d1 : ((y : Int) - (x : Int) == (n : Int)) = false := by simp; omega
        have hle : (x : Int) ≤ (y : Int) := by omega
        have hr : runFrom x l = k := runFrom_eq HA.out (by
          rw [List.getElem?_eq_getElem hlt, HY.out]
          intro e; injection e with e; omega)
        have HR := Lib.hid hr
        clear he hr
        go_wp2_with fail
        go_quiet (fail)
        go_wp2
        go_ret
        refine ⟨?_, m + nq, ?_⟩
        · rw [HR.out, ← HN.out]; rfl
        · rw [← HW.out, World.drewN_drewN]
    · have hd1 : decide ((n : Int) < (l.length : Int) + 1) = false := by simp; omega
      have hd2 : decide (n < l.length + 1) = false := by simp; omega
      have hr : runFrom x l = k := runFrom_eq HA.out (by rw [List.getElem?_eq_none (by omega)]; simp)
      have HR := Lib.hid hr
      clear hr hc
      generalize hW : w.drewN m = W at *
      have HW := Lib.hid hW
      clear hW
      go_wp2_with fail
      go_quiet (fail)
      go_wp2
      go_ret
      refine ⟨?_, m + nq, ?_⟩
      · rw [HR.out, ← HN.out]; rfl
      · rw [← HW.out, World.drewN_drewN]
def catS (l : List Nat) : List UInt8 := l.flatMap signL
theorem catS_length (x k : Nat) : (catS (List.range' x k)).length ≤ 3 * k := by
  induction k with
  | zero => simp [catS]
  | succ k ih =>
    have := (signL_length (x + 1 * k)).1
    rw [List.range'_concat]
    simp [catS] at ih ⊢
    simp at this
    omega
def catInv (x n : Nat) (w : World) (i : Value) (wr : World) : Prop := ∃ k : Nat, k ≤ n ∧ i = .int .i64 k ∧ Lib.IsBuilderF 49 5 w.heap.size w.heap.size (Lib.byteCells (catS (List.range' x k))) wr ∧ Below w.heap.size w wr
theorem keepB {w W w1 : World} {p q : Addr} {u v : Value} (hp : p.block < w.heap.size) (hq : q.block < w.heap.size) (c0 : w.cell? p = some u) (c1 : w.cell? q = some v) (h : Below w.heap.size w W) (hb : Below W.heap.size W w1) :
    w1.cell? p = some u ∧ w1.cell? q = some v ∧ Below w.heap.size w w1 := by
  have h2 := h.trans (hb.mono h.size)
  exact ⟨by rw [h2.cell hp]; exact c0, by rw [h2.cell hq]; exact c1, h2⟩
set_option maxHeartbeats 800000 in
theorem runText_any (a : Option Addr) (x n : Nat) (cap : Nat) (w : World) (h : NatsAt w a (List.range' x n)) (hn : 1 ≤ n) :
    Calls Tryd.prog 62 #[.slice a n cap] w fun e w' => e = .returned (.string ⟨(segL x n).toArray⟩) ∧ Below w.heap.size w w' := by
  have hS := Lib.hid h
  have hxn : x + n - 1 < 256 := by
    have := h.1 (x + n - 1) (by simp [List.mem_range'_1]; omega)
    exact this
  obtain ⟨b, off, hab, hblt, hc⟩ : ∃ b off, a = some ⟨b, off, none⟩ ∧ b < w.heap.size ∧ ∀ i, i < n → w.cell? ⟨b, off + i, none⟩ = some (.int .u8 (x + i : Nat)) := by
    rcases h.2.2 with h | ⟨b, off, h1, h2, h3⟩
    · simp at h; omega
    · refine ⟨b, off, h1, h2, fun i hi => ?_⟩
      have := h3 i (by simpa using hi)
      simpa using this
  subst hab
  clear h
  by_cases h3 : 3 ≤ n
  · have e : segL x n = signL x ++ 45 :: signL (x + n - 1) := by simp [segL, h3]
    rw [e]
    clear e
    have c0 : w.cell? ⟨b, off, none⟩ = some (.int .u8 x) := by have := hc 0 (by omega); simpa using this
    obtain ⟨p, rfl⟩ : ∃ p, n = p + 1 := ⟨n - 1, by omega⟩
    have c1 : w.cell? ⟨b, off + p, none⟩ = some (.int .u8 (x + p : Nat)) := hc p (by omega)
    have ey : x + (p + 1) - 1 = x + p := by omega
    rw [ey] at hxn ⊢
    have hx256 : x < 256 := by omega
    have hpb : p < 257 := by omega
    clear hc ey hS
    generalize x + p = y at *
    obtain ⟨X, hX⟩ : ∃ X, signL x = X := ⟨_, rfl⟩
    obtain ⟨Y, hY⟩ : ∃ Y, signL y = Y := ⟨_, rfl⟩
    have lX : X.length ≤ 3 := by rw [← hX]; exact (signL_length x).1
    have lY : Y.length ≤ 3 := by rw [← hY]; exact (signL_length y).1
    have kX := fun W => sign_any x W hx256
    have kY := fun W => sign_any y W hxn
    rw [hX] at kX ⊢
    rw [hY] at kY ⊢
    have hfin : (⟨(X ++ 45 :: Y).toArray⟩ : ByteArray) = ByteArray.mk X.toArray ++ ByteArray.mk #[45] ++ ByteArray.mk Y.toArray := by
      apply ByteArray.ext; simp [ByteArray.data_append]
    rw [hfin]
    clear hX hY hfin
    have KX := Lib.hid kX
    have KY := Lib.hid kY
    clear kX kY
    have n1 : ¬ (9223372036854775807 < X.length + 1) := by omega
    have n2 : ¬ (9223372036854775807 < X.length + 1 + Y.length) := by omega
    have hd : decide ((3 : Int) ≤ (p : Int) + 1) = true := by simp; omega
    have hi0 : 0 < p + 1 := by omega
    have hi1 : (0 : Int) ≤ (p : Int) := by omega
    have hi2 : (p : Int) < (p : Int) + 1 := by omega
    have hwr : IntKind.i64.wrap (p : Int) = (p : Int) := IntWalk.i64_in _ (by omega)
    go_enter Tryd.func62, Tryd.ntmps62
    go_wp2_with fail
    go_region_held3 (fun w' => w'.cell? ⟨b, off, none⟩ = some (.int .u8 x) ∧ w'.cell? ⟨b, off + p, none⟩ = some (.int .u8 y) ∧ Below w.heap.size w w') (first | exact ⟨c0, c1, (Below.refl _ _).drew⟩ | (go_split_ands; exact keepB (p := ⟨b, off, none⟩) (q := ⟨b, off + p, none⟩) hblt hblt c0 c1 (by assumption) (by assumption)))
      (first | (go_at_call 18; (with_reducible refine (KX.out _).mono ?_); rintro e w' ⟨rfl, hbb⟩) | (go_at_call 18; (with_reducible refine (KY.out _).mono ?_); rintro e w' ⟨rfl, hbb⟩))
    obtain ⟨-, -, hbw⟩ := ‹_ ∧ _ ∧ Below w.heap.size w _›
    go_wp2
    go_ret
    exact ⟨rfl, hbw⟩
  · have hd : decide ((3 : Int) ≤ (n : Int)) = false := by simp; omega
    have hcat : segL x n = catS (List.range' x n) := by
      have : n = 1 ∨ n = 2 := by omega
      rcases this with rfl | rfl
      · simp [segL, catS]
      · simp [segL, catS, List.range'_succ]
    rw [hcat]
    have HC := Lib.hid hc
    clear hc hcat hS
    go_enter Tryd.func62, Tryd.ntmps62
    go_wp2
    go_loopw [24] (fun i wr => catInv x n w i wr) (fun i _ => n - (intOf i).toNat)
    case atStart => exact ⟨0, Nat.zero_le _, rfl, Lib.IsBuilderF.of (Lib.fresh_isBuilder _ _ w), (Below.refl _ _).alloc (Nat.le_refl _) _⟩
    case round =>
      obtain ⟨k, hk, rfl, hI, hb⟩ := hrel
      have hI' := Lib.hid hI
      clear hI
      have hsz := hb.size
      by_cases hlt : k < n
      · have hcell : wr.cell? ⟨b, off + k, none⟩ = some (.int .u8 (x + k : Nat)) := by rw [hb.cell (p := ⟨b, off + k, none⟩) hblt]; exact HC.out k hlt
        have hy256 : x + k < 256 := by omega
        have hsn : catS (List.range' x (k + 1)) = catS (List.range' x k) ++ signL (x + k) := by
          rw [List.range'_concat]; simp [catS]
        have hlen : (catS (List.range' x k)).length ≤ 3 * k := catS_length x k
        have HS := Lib.hid hsn
        clear hsn
        generalize x + k = y at *
        have ly := (signL_length y).1
        go_wp2_with fail
        refine (sign_any y _ hy256).mono ?_
        rintro e w1 ⟨rfl, hb1⟩
        have hI1 := Lib.hid (builder_below hI'.out hb1)
        have hbw := hb.trans (hb1.mono hsz)
        have hsz1 := hbw.size
        clear hcell hb1
        generalize hY : signL y = Y at *
        have HY := Lib.hid hY
        clear hY
        go_wp2_with fail
        refine (writeString_any w.heap.size w.heap.size _ ⟨Y.toArray⟩ _ hI1.out ?hl hsz1).mono ?_
        case hl =>
          show _ + Y.toArray.size ≤ _
          rw [Lib.byteCells_length]; simp; omega
        rintro e w2 ⟨rfl, hI2, hb2⟩
        have HI2 := Lib.hid hI2
        clear hI2
        go_wp2
        refine ⟨⟨k + 1, by omega, by go_num, ?_, hbw.trans hb2⟩, by simp [intOf]; omega⟩
        rw [HS.out, Lib.byteCells_append, ← strCells_mk]
        exact HI2.out
      · obtain rfl : k = n := by omega
        go_wp2_with fail
        refine (Tryd.Builder_String_any_k w.heap.size w.heap.size (catS (List.range' x k)) _ hI'.out hsz).mono ?_
        rintro e w1 ⟨rfl, -, hb1, -⟩
        go_wp2
        go_ret
        exact ⟨rfl, hb.trans hb1⟩
end Go.Proofs.YtdkdgbiagjflgaaDoor
