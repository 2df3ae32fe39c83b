/- Lemmas of mine, merged: QPReadJ, QPSetK, QPSetL, QPShowA, QPShowB, QPShowC, QPShowV, QPShowP, QPShowQ, QPShowR, QPShowS, QPRdrB, QPRdrE. -/
import Derived.WalkKit
import Derived.WalkSpells
import Derived.WalkLawsBesides
import Derived.Lib.OthersKept
import Derived.Lib.Hide
import Derived.Deep.QuietTactic
import Derived.BigQuiet
import Derived.Laws.DeepStrings4
import Derived.Deep.RegionWith
import Derived.OwnWalk
import Derived.Laws.AppendOwn
import Derived.RegionTactic
import Derived.Test.YthgghaaddankoaaGreatDoorQPRexEAll
import Derived.Test.YthgghaaddankoaaGreatDoorQPSetJAll
import Derived.Test.YthgghaaddankoaaGreatDoorRows
import Derived.Test.YthgghaaddankoaaGreatDoorQPSetEAll
import Derived.Test.YthgghaaddankoaaGreatDoorQPRexBAll
import Derived.Test.YthgghaaddankoaaGreatDoorQPRexJAll
import Derived.Deep.RegionHeld3
import Derived.Test.YthgghaaddankoaaGreatDoorQPSetHAll
import Derived.Test.YthgghaaddankoaaGreatDoorQPSetAAll
import Derived.StillTailTactics
import Derived.Test.YthgghaaddankoaaGreatDoorQPNumBuildAll
import Derived.Test.YthgghaaddankoaaGreatDoorQPFstIAll
import Derived.Test.YthgghaaddankoaaGreatDoorQPNumHexAAll
/- Lemmas of mine. -/
namespace Go.Proofs.YthgghaaddankoaaGreatDoor
open Go.RowKit
noncomputable def resOf (s : ByteArray) : PR := Classical.choose (PX.total _ s.data.toList (Nat.le_refl _)).2.2
theorem resOf_px (s : ByteArray) : PX .alt s.data.toList (resOf s) := Classical.choose_spec (PX.total _ s.data.toList (Nat.le_refl _)).2.2
noncomputable def rdOf (s : ByteArray) : RD := topR s.size (resOf s)
theorem rdOf_px {s : ByteArray} {res : PR} (h : PX .alt s.data.toList res) : rdOf s = topR s.size res := by
  unfold rdOf; rw [(resOf_px s).det h]
def ReadC : Prop := ∀ (s : ByteArray) (w : World), s.size ≤ 1000000000 → Calls Tryz.prog 24 #[.string s] w (RdPost w (rdOf s))
theorem ex_atom (c : UInt8) (l : List UInt8) (hc : sgn (c :: l) = .ok c.toNat l) (h1 : c ≠ 46) (h2 : c ≠ 91) (h3 : c ≠ 40) : PX .atom (c :: l) (.ok (.cls (rngW c.toNat c.toNat)) l) := PX.sign (notAt_cons h1) (notAt_cons h2) (notAt_cons h3) hc
open Go.RowKit
def NatsAt (w : World) (a : Option Addr) (l : List Nat) : Prop := (∀ x ∈ l, x < 256) ∧ l.length ≤ maxLen ∧ (l = [] ∨ ∃ b off, a = some ⟨b, off, none⟩ ∧ b < w.heap.size ∧ ∀ i (h : i < l.length), w.cell? ⟨b, off + i, none⟩ = some (.int .u8 (l[i] : Nat)))
theorem natsAt_of {w : World} {a : Option Addr} {l : List Nat} (h : BytesAt w a (u8s l)) (hl : ∀ x ∈ l, x < 256) : NatsAt w a l := by
  refine ⟨hl, by simpa [u8s_length] using h.1, ?_⟩
  rcases h.2 with h0 | ⟨b, off, rfl, hb, hc⟩
  · left; simpa [u8s] using h0
  · refine .inr ⟨b, off, rfl, hb, fun i hi => ?_⟩; have := hc i (by rw [u8s_length]; exact hi); rw [this]; have h2 := hl _ (List.getElem_mem hi); simp [u8s]; omega
theorem NatsAt.below {w w' : World} {a : Option Addr} {l : List Nat} (h : NatsAt w a l) (hb : Below w.heap.size w w') : NatsAt w' a l := by
  obtain ⟨h1, h2, h3⟩ := h; refine ⟨h1, h2, ?_⟩
  rcases h3 with h3 | ⟨b, off, rfl, hlt, hc⟩
  · exact .inl h3
  · exact .inr ⟨b, off, rfl, Nat.lt_of_lt_of_le hlt hb.size, fun i h => by rw [hb.cell (p := ⟨b, off + i, none⟩) hlt]; exact hc i h⟩
def runInv (x : Nat) (l : List Nat) (w : World) (i : Value) (wr : World) : Prop := ∃ k m : Nat, k ≤ l.length ∧ i = .int .i64 (1 + k : Nat) ∧ (∀ j, j < k → l[j]? = some (x + 1 + j)) ∧ wr = w.drewN m
theorem pair_le {x : Nat} {l : List Nat} (h : (x :: l).Pairwise (· < ·)) (k : Nat) (hk : k < l.length) : x + k + 1 ≤ l[k] := by
  induction l generalizing x k with
  | nil => simp at hk
  | cons y t ih =>
    (have h0 : x < y := by simp at h; exact h.1.1)
    cases k with
    | zero => simp; omega
    | succ k =>
      have := ih (x := y) (h.tail) k (by simpa using hk); simp at this ⊢; omega
set_option maxHeartbeats 2000000 in
theorem runLength_any (a : Option Addr) (x : Nat) (l : List Nat) (cap : Nat) (w : World) (h : NatsAt w a (x :: l)) (hp : (x :: l).Pairwise (· < ·)) :
    Calls Tryz.prog 114 #[.slice a (l.length + 1) cap] w fun e w' => e = .returned (.int .i64 (1 + runFrom x l : Nat)) ∧ ∃ n, w' = w.drewN n := by
  have hS := Lib.hid h; have HP := Lib.hid hp; have hl := h.2.1; unfold maxLen at hl; simp at hl; clear h hp; go_enter Tryz.func114, Tryz.ntmps114; go_wp2
  go_loopw [3] (fun i wr => runInv x l w i wr) (fun i _ => l.length + 1 - (intOf i).toNat)
  case atStart => exact ⟨0, 0, Nat.zero_le _, rfl, fun j hj => by omega, rfl⟩
  case round =>
    obtain ⟨k, m, hk, rfl, hall, rfl⟩ := hrel; have HA := Lib.hid hall; clear hall
    obtain ⟨b, off, hab, hblt, hc⟩ : ∃ b off, a = some ⟨b, off, none⟩ ∧ b < w.heap.size ∧ ∀ i (h : i < (x :: l).length), w.cell? ⟨b, off + i, none⟩ = some (.int .u8 ((x :: l)[i] : Nat)) := by
      rcases hS.out.2.2 with h | h
      · simp at h
      · exact h
    subst hab; have hx256 : x < 256 := hS.out.1 x (List.mem_cons_self ..)
    have c0 : (w.drewN m).cell? ⟨b, off, none⟩ = some (.int .u8 x) := by
      have := hc 0 (by simp)
      simpa using this
    obtain ⟨n, hn⟩ : ∃ n, n = 1 + k := ⟨_, rfl⟩; (have hn1 : n ≤ 1 + k := by omega); (have hn2 : 1 + k ≤ n := by omega); rw [← hn]; have HN := Lib.hid hn; clear hn
    by_cases hlt : k < l.length
    · have c1 : (w.drewN m).cell? ⟨b, off + n, none⟩ = some (.int .u8 (l[k] : Nat)) := by
        have := hc (k + 1) (by simpa using hlt); rw [HN.out, Nat.add_comm 1]
        simpa using this
      have hy256 : l[k] < 256 := hS.out.1 _ (List.mem_cons_of_mem _ (List.getElem_mem hlt)); have hge := pair_le HP.out k hlt; (have hd1 : decide ((n : Int) < (l.length : Int) + 1) = true := by simp; omega); (have hd2 : decide (n < l.length + 1) = true := by simp; omega); clear hc; generalize hy : l[k] = y at *; have HY := Lib.hid hy; clear hy; generalize hW : w.drewN m = W at *; have HW := Lib.hid hW; clear hW
      by_cases he : y = x + n
      · (have d1 : ((y : Int) - (x : Int) == (n : Int)) = true := by simp; omega); (have hle : (x : Int) ≤ (y : Int) := by omega); have HE := Lib.hid he; clear he; go_wp2_with fail
        go_quiet (fail)
        go_wp2; refine ⟨⟨k + 1, m + nq, by omega, ?_, ?_, ?_⟩, by simp [intOf]; omega⟩
        · rw [HN.out]; go_num
        · intro j hj
          by_cases e : j = k
          · subst e; rw [List.getElem?_eq_getElem hlt, HY.out, HE.out, HN.out]; congr 1; omega
          · exact HA.out j (by omega)
        · rw [← HW.out, World.drewN_drewN]
      · (have d1 : ((y : Int) - (x : Int) == (n : Int)) = false := by simp; omega); (have hle : (x : Int) ≤ (y : Int) := by omega)
        have hr : runFrom x l = k := runFrom_eq HA.out (by
          rw [List.getElem?_eq_getElem hlt, HY.out]
          intro e; injection e with e; omega)
        have HR := Lib.hid hr; clear he hr; go_wp2_with fail
        go_quiet (fail)
        go_wp2; go_ret; refine ⟨?_, m + nq, ?_⟩
        · rw [HR.out, ← HN.out]; rfl
        · rw [← HW.out, World.drewN_drewN]
    · (have hd1 : decide ((n : Int) < (l.length : Int) + 1) = false := by simp; omega); (have hd2 : decide (n < l.length + 1) = false := by simp; omega); have hr : runFrom x l = k := runFrom_eq HA.out (by rw [List.getElem?_eq_none (by omega)]; simp); have HR := Lib.hid hr; clear hr hc; generalize hW : w.drewN m = W at *; have HW := Lib.hid hW; clear hW; go_wp2_with fail
      go_quiet (fail)
      go_wp2; go_ret; refine ⟨?_, m + nq, ?_⟩
      · rw [HR.out, ← HN.out]; rfl
      · rw [← HW.out, World.drewN_drewN]
def catS (l : List Nat) : List UInt8 := l.flatMap signL
theorem catS_length (x k : Nat) : (catS (List.range' x k)).length ≤ 3 * k := by
  induction k with
  | zero => simp [catS]
  | succ k ih =>
    have := (signL_length (x + 1 * k)).1; rw [List.range'_concat]; simp [catS] at ih ⊢; simp at this; omega
def catInv (x n : Nat) (w : World) (i : Value) (wr : World) : Prop := ∃ k : Nat, k ≤ n ∧ i = .int .i64 k ∧ Lib.IsBuilderF 95 5 w.heap.size w.heap.size (Lib.byteCells (catS (List.range' x k))) wr ∧ Below w.heap.size w wr
theorem keepB {w W w1 : World} {p q : Addr} {u v : Value} (hp : p.block < w.heap.size) (hq : q.block < w.heap.size) (c0 : w.cell? p = some u) (c1 : w.cell? q = some v) (h : Below w.heap.size w W) (hb : Below W.heap.size W w1) :
    w1.cell? p = some u ∧ w1.cell? q = some v ∧ Below w.heap.size w w1 := by
  have h2 := h.trans (hb.mono h.size); exact ⟨by rw [h2.cell hp]; exact c0, by rw [h2.cell hq]; exact c1, h2⟩
set_option maxHeartbeats 800000 in
theorem runText_any (a : Option Addr) (x n : Nat) (cap : Nat) (w : World) (h : NatsAt w a (List.range' x n)) (hn : 1 ≤ n) :
    Calls Tryz.prog 115 #[.slice a n cap] w fun e w' => e = .returned (.string ⟨(segL x n).toArray⟩) ∧ Below w.heap.size w w' := by
  have hS := Lib.hid h
  have hxn : x + n - 1 < 256 := by
    have := h.1 (x + n - 1) (by simp [List.mem_range'_1]; omega); exact this
  obtain ⟨b, off, hab, hblt, hc⟩ : ∃ b off, a = some ⟨b, off, none⟩ ∧ b < w.heap.size ∧ ∀ i, i < n → w.cell? ⟨b, off + i, none⟩ = some (.int .u8 (x + i : Nat)) := by
    rcases h.2.2 with h | ⟨b, off, h1, h2, h3⟩
    · simp at h; omega
    · refine ⟨b, off, h1, h2, fun i hi => ?_⟩; have := h3 i (by simpa using hi)
      simpa using this
  subst hab; clear h
  by_cases h3 : 3 ≤ n
  · (have e : segL x n = signL x ++ 45 :: signL (x + n - 1) := by simp [segL, h3]); rw [e]; clear e; (have c0 : w.cell? ⟨b, off, none⟩ = some (.int .u8 x) := by have := hc 0 (by omega); simp only [Nat.add_zero] at this; exact this); obtain ⟨p, rfl⟩ : ∃ p, n = p + 1 := ⟨n - 1, by omega⟩; have c1 : w.cell? ⟨b, off + p, none⟩ = some (.int .u8 (x + p : Nat)) := hc p (by omega); (have ey : x + (p + 1) - 1 = x + p := by omega); rw [ey] at hxn ⊢; (have hx256 : x < 256 := by omega); (have hpb : p < 257 := by omega); clear hc ey hS; generalize x + p = y at *; obtain ⟨X, hX⟩ : ∃ X, signL x = X := ⟨_, rfl⟩; obtain ⟨Y, hY⟩ : ∃ Y, signL y = Y := ⟨_, rfl⟩; (have lX : X.length ≤ 3 := by rw [← hX]; exact (signL_length x).1); (have lY : Y.length ≤ 3 := by rw [← hY]; exact (signL_length y).1); have kX := fun W => sign_any x W hx256; have kY := fun W => sign_any y W hxn; rw [hX] at kX ⊢; rw [hY] at kY ⊢
    have hfin : (⟨(X ++ 45 :: Y).toArray⟩ : ByteArray) = ByteArray.mk X.toArray ++ ByteArray.mk #[45] ++ ByteArray.mk Y.toArray := by
      apply ByteArray.ext; simp [ByteArray.data_append]
    rw [hfin]; clear hX hY hfin; have KX := Lib.hid kX; have KY := Lib.hid kY; clear kX kY; (have n1 : ¬ (9223372036854775807 < X.length + 1) := by omega); (have n2 : ¬ (9223372036854775807 < X.length + 1 + Y.length) := by omega); (have hd : decide ((3 : Int) ≤ (p : Int) + 1) = true := by simp; omega); (have hi0 : 0 < p + 1 := by omega); (have hi1 : (0 : Int) ≤ (p : Int) := by omega); (have hi2 : (p : Int) < (p : Int) + 1 := by omega); have hwr : IntKind.i64.wrap (p : Int) = (p : Int) := IntWalk.i64_in _ (by omega); go_enter Tryz.func115, Tryz.ntmps115; go_wp2_with fail
    go_region_held3 (fun w' => w'.cell? ⟨b, off, none⟩ = some (.int .u8 x) ∧ w'.cell? ⟨b, off + p, none⟩ = some (.int .u8 y) ∧ Below w.heap.size w w') (first | exact ⟨c0, c1, (Below.refl _ _).drew⟩ | (go_split_ands; exact keepB (p := ⟨b, off, none⟩) (q := ⟨b, off + p, none⟩) hblt hblt c0 c1 (by assumption) (by assumption)))
      (first | (go_at_call 110; (with_reducible refine (KX.out _).mono ?_); rintro e w' ⟨rfl, hbb⟩) | (go_at_call 110; (with_reducible refine (KY.out _).mono ?_); rintro e w' ⟨rfl, hbb⟩))
    obtain ⟨-, -, hbw⟩ := ‹_ ∧ _ ∧ Below w.heap.size w _›; go_wp2; go_ret; exact ⟨rfl, hbw⟩
  · (have hd : decide ((3 : Int) ≤ (n : Int)) = false := by simp; omega)
    have hcat : segL x n = catS (List.range' x n) := by
      (have : n = 1 ∨ n = 2 := by omega)
      rcases this with rfl | rfl
      · simp [segL, catS]
      · simp [segL, catS, List.range'_succ]
    rw [hcat]; have HC := Lib.hid hc; clear hc hcat hS; go_enter Tryz.func115, Tryz.ntmps115; go_wp2
    go_loopw [24] (fun i wr => catInv x n w i wr) (fun i _ => n - (intOf i).toNat)
    case atStart => exact ⟨0, Nat.zero_le _, rfl, Lib.IsBuilderF.of (Lib.fresh_isBuilder _ _ w), (Below.refl _ _).alloc (Nat.le_refl _) _⟩
    case round =>
      obtain ⟨k, hk, rfl, hI, hb⟩ := hrel; have hI' := Lib.hid hI; clear hI; have hsz := hb.size
      by_cases hlt : k < n
      · (have hcell : wr.cell? ⟨b, off + k, none⟩ = some (.int .u8 (x + k : Nat)) := by rw [hb.cell (p := ⟨b, off + k, none⟩) hblt]; exact HC.out k hlt); (have hy256 : x + k < 256 := by omega)
        have hsn : catS (List.range' x (k + 1)) = catS (List.range' x k) ++ signL (x + k) := by
          rw [List.range'_concat]; simp [catS]
        have hlen : (catS (List.range' x k)).length ≤ 3 * k := catS_length x k; have HS := Lib.hid hsn; clear hsn; generalize x + k = y at *; have ly := (signL_length y).1; go_wp2_with fail; refine (sign_any y _ hy256).mono ?_; rintro e w1 ⟨rfl, hb1⟩; have hI1 := Lib.hid (builder_below hI'.out hb1); have hbw := hb.trans (hb1.mono hsz); have hsz1 := hbw.size; clear hcell hb1; generalize hY : signL y = Y at *; have HY := Lib.hid hY; clear hY; go_wp2_with fail; refine (writeString_any w.heap.size w.heap.size _ ⟨Y.toArray⟩ _ hI1.out ?hl hsz1).mono ?_
        case hl =>
          show _ + Y.toArray.size ≤ _; rw [Lib.byteCells_length]; simp; omega
        rintro e w2 ⟨rfl, hI2, hb2⟩; have HI2 := Lib.hid hI2; clear hI2; go_wp2; refine ⟨⟨k + 1, by omega, by go_num, ?_, hbw.trans hb2⟩, by simp [intOf]; omega⟩; rw [HS.out, Lib.byteCells_append, ← strCells_mk]; exact HI2.out
      · (obtain rfl : k = n := by omega); go_wp2_with fail; refine (Tryz.Builder_String_any_k w.heap.size w.heap.size (catS (List.range' x k)) _ hI'.out hsz).mono ?_; rintro e w1 ⟨rfl, -, hb1, -⟩; go_wp2; go_ret; exact ⟨rfl, hb.trans hb1⟩
open Go.RowKit
theorem keepX {w W w1 : World} {g : Nat} {s : Ws} (hB : Box w g s) (h : Below w.heap.size w W) (hb : Below W.heap.size W w1) :
    (w1.cell? ⟨g, 0, none⟩ = some (.int .u64 s.a) ∧ w1.cell? ⟨g, 1, none⟩ = some (.int .u64 s.b) ∧ w1.cell? ⟨g, 2, none⟩ = some (.int .u64 s.c) ∧ w1.cell? ⟨g, 3, none⟩ = some (.int .u64 s.d)) ∧ Below w.heap.size w w1 := by
  have h2 := h.trans (hb.mono h.size); exact ⟨(hB.below h2 hB.lt).cells, h2⟩
theorem everyByte_lit (w : World) :
    Calls Tryz.prog 112 #[] w fun e w' => e = .returned (.agg #[.int .u64 18446744073709551615, .int .u64 18446744073709551615, .int .u64 18446744073709551615, .int .u64 18446744073709551615]) ∧ Below w.heap.size w w' := everyByte_any w
set_option maxHeartbeats 800000 in
theorem text_full (s : Ws) (w : World) (hf : s = Ws.full) :
    Calls Tryz.prog 89 #[s.v] w fun e w' => e = .returned (.string ⟨(textW s).toArray⟩) ∧ Below w.heap.size w w' := by
  have ht : textW s = [46] := by
    unfold textW; rw [if_pos (by rw [hf]; exact (full_of_length Ws.full_ok).2 rfl)]
  rw [ht]; clear ht
  have hq : ∀ w, (Op.equalIn 10000 37 s.v (.agg #[.int .u64 18446744073709551615, .int .u64 18446744073709551615, .int .u64 18446744073709551615, .int .u64 18446744073709551615])).run Tryz.prog w = .ok true w := by
    rw [hf]; exact eqW_yes Ws.full
  clear hf; obtain ⟨a, b, c, d⟩ := s; unfold Ws.v at *; go_enter Tryz.func89, Tryz.ntmps89; go_wp2_with fail; have hB0 := Box.new4 w a b c d; have hbw : Below w.heap.size w (w.alloc (.cells #[.int .u64 a, .int .u64 b, .int .u64 c, .int .u64 d] 37)) := (Below.refl _ w).alloc (Nat.le_refl _) _; generalize hW : w.alloc (.cells #[.int .u64 a, .int .u64 b, .int .u64 c, .int .u64 d] 37) = W at *; clear hW; obtain ⟨⟨c0, c1, c2, c3⟩, -⟩ := hB0.all
  go_region_held3 (fun w' => (w'.cell? ⟨w.heap.size, 0, none⟩ = some (.int .u64 a) ∧ w'.cell? ⟨w.heap.size, 1, none⟩ = some (.int .u64 b) ∧ w'.cell? ⟨w.heap.size, 2, none⟩ = some (.int .u64 c) ∧ w'.cell? ⟨w.heap.size, 3, none⟩ = some (.int .u64 d)) ∧ Below W.heap.size W w') (first | exact ⟨⟨c0, c1, c2, c3⟩, (Below.refl _ _).drew⟩ | exact keepX hB0 (And.right (by assumption)) (by assumption))
      (first | (go_at_call 112; (with_reducible refine (everyByte_lit _).mono ?_); rintro e w' ⟨rfl, hbb⟩))
  obtain ⟨-, hbx⟩ := ‹_ ∧ Below W.heap.size W _›; clear c0 c1 c2 c3; go_wp2; go_ret; exact ⟨rfl, hbw.trans (hbx.mono hbw.size)⟩
theorem NatsAt.take_run {w : World} {a : Option Addr} {x : Nat} {l : List Nat} (h : NatsAt w a (x :: l)) : NatsAt w a (List.range' x (1 + runFrom x l)) := by
  have e : List.range' x (1 + runFrom x l) = (x :: l).take (1 + runFrom x l) := by
    rw [Nat.add_comm 1, List.range'_succ, List.take_succ_cons, runFrom_take]
  rw [e]; obtain ⟨h1, h2, h3⟩ := h; refine ⟨fun y hy => h1 y (List.mem_of_mem_take hy), ?_, ?_⟩
  · have := List.length_take_le (1 + runFrom x l) (x :: l); rw [List.length_take]; omega
  · rcases h3 with h3 | ⟨b, off, rfl, hb, hc⟩
    · simp at h3
    · refine .inr ⟨b, off, rfl, hb, fun i hi => ?_⟩; (have hi' : i < (x :: l).length := by rw [List.length_take] at hi; omega); rw [hc i hi']; simp only [List.getElem_take]
theorem NatsAt.drop_run {w : World} {a : Option Addr} {x : Nat} {l : List Nat} (h : NatsAt w a (x :: l)) (r : Nat) : NatsAt w (a.map fun p => p.add (1 + r)) (l.drop r) := by
  obtain ⟨h1, h2, h3⟩ := h; refine ⟨fun y hy => h1 y (List.mem_cons_of_mem _ (List.mem_of_mem_drop hy)), ?_, ?_⟩
  · rw [List.length_drop]; simp at h2; omega
  · rcases h3 with h3 | ⟨b, off, rfl, hb, hc⟩
    · simp at h3
    · refine .inr ⟨b, off + (1 + r), ?_, hb, fun i hi => ?_⟩
      · simp [Addr.add]
      · rw [List.length_drop] at hi; have := hc (1 + r + i) (by simp; omega); rw [← Nat.add_assoc] at this; rw [this]; simp only [List.getElem_drop]; (have e : 1 + r + i = (r + i) + 1 := by omega); simp [e]
theorem bytesN_pair (s : Ws) : (bytesN s).Pairwise (· < ·) := List.Pairwise.filter _ List.pairwise_lt_range
def lenOf : Value → Nat
  | .slice _ n _ => n
  | _ => 0
def txtInv (L : List Nat) (w : World) (v : Value) (wr : World) : Prop := ∃ (al : Option Addr) (l : List Nat) (cap : Nat) (pre : List UInt8), v = .slice al l.length cap ∧ l.length ≤ cap ∧ NatsAt w al l ∧ l.Pairwise (· < ·) ∧ pre ++ textOf l = textOf L ∧
  Lib.IsBuilderF 95 5 w.heap.size w.heap.size (Lib.byteCells (91 :: pre)) wr ∧ Below w.heap.size w wr
set_option maxHeartbeats 800000 in
theorem text_some (s : Ws) (w : World) (hs : s.Ok) (hT : Tab w) (hf : s ≠ Ws.full) :
    Calls Tryz.prog 89 #[s.v] w fun e w' => e = .returned (.string ⟨(textW s).toArray⟩) ∧ Below w.heap.size w w' := by
  have hq : ∀ w, (Op.equalIn 10000 37 s.v (.agg #[.int .u64 18446744073709551615, .int .u64 18446744073709551615, .int .u64 18446744073709551615, .int .u64 18446744073709551615])).run Tryz.prog w = .ok false w := by
    have hv : Ws.full.v = .agg #[.int .u64 18446744073709551615, .int .u64 18446744073709551615, .int .u64 18446744073709551615, .int .u64 18446744073709551615] := rfl; intro w; rw [← hv]; exact eqW_no hf w
  have h256 : ¬ (bytesN s).length = 256 := fun e => hf ((full_of_length hs).1 e); have HT := Lib.hid hT; have H256 := Lib.hid h256; clear hf h256 hT; obtain ⟨a, b, c, d⟩ := s; unfold Ws.v at *; go_enter Tryz.func89, Tryz.ntmps89; go_wp2_with fail; have hB0 := Box.new4 w a b c d; have hbw : Below w.heap.size w (w.alloc (.cells #[.int .u64 a, .int .u64 b, .int .u64 c, .int .u64 d] 37)) := (Below.refl _ w).alloc (Nat.le_refl _) _; generalize hW : w.alloc (.cells #[.int .u64 a, .int .u64 b, .int .u64 c, .int .u64 d] 37) = W at *; clear hW; obtain ⟨⟨c0, c1, c2, c3⟩, -⟩ := hB0.all
  go_region_held3 (fun w' => (w'.cell? ⟨w.heap.size, 0, none⟩ = some (.int .u64 a) ∧ w'.cell? ⟨w.heap.size, 1, none⟩ = some (.int .u64 b) ∧ w'.cell? ⟨w.heap.size, 2, none⟩ = some (.int .u64 c) ∧ w'.cell? ⟨w.heap.size, 3, none⟩ = some (.int .u64 d)) ∧ Below W.heap.size W w') (first | exact ⟨⟨c0, c1, c2, c3⟩, (Below.refl _ _).drew⟩ | exact keepX hB0 (And.right (by assumption)) (by assumption))
      (first | (go_at_call 112; (with_reducible refine (everyByte_lit _).mono ?_); rintro e w' ⟨rfl, hbb⟩))
  obtain ⟨-, hbx⟩ := ‹_ ∧ Below W.heap.size W _›; clear c0 c1 c2 c3; have hB1 := hB0.below hbx hB0.lt; replace hbw := hbw.trans (hbx.mono hbw.size); have hT1 := HT.out.below hbw HT.out.1; clear hB0 hbx hq; obtain ⟨⟨c0, c1, c2, c3⟩, -⟩ := hB1.all; go_wp2_with fail; refine (bytes_any ⟨a, b, c, d⟩ _ hs hT1).mono ?_; rintro e w2 ⟨al, cap, rfl, hcap, hb2, hat⟩; have hN := natsAt_of hat (bytesN_lt _); replace hbw := hbw.trans (hb2.mono hbw.size); have hp := bytesN_pair ⟨a, b, c, d⟩; have hmax := bytesN_length_le ⟨a, b, c, d⟩; rw [u8s_length] at hcap ⊢; clear c0 c1 c2 c3 hB1 hT1 hb2 hat; generalize hL : bytesN ⟨a, b, c, d⟩ = L at *; have hsz := hbw.size
  by_cases h1 : L.length = 1
  · obtain ⟨x, rfl⟩ := List.length_eq_one_iff.1 h1
    have ht : textW ⟨a, b, c, d⟩ = signL x := by
      unfold textW; rw [hL]; simp
    have HTX := Lib.hid ht; clear ht hL
    obtain ⟨b', off, hab, hblt, hc⟩ : ∃ b off, al = some ⟨b, off, none⟩ ∧ b < w2.heap.size ∧ ∀ i (h : i < [x].length), w2.cell? ⟨b, off + i, none⟩ = some (.int .u8 ([x][i] : Nat)) := by
      rcases hN.2.2 with h | h
      · simp at h
      · exact h
    subst hab; (have c0 : w2.cell? ⟨b', off, none⟩ = some (.int .u8 x) := by have := hc 0 (by simp); simp only [Nat.add_zero] at this; exact this); have hx : x < 256 := hN.1 x (by simp); clear hc hN h1 hp H256; simp only [List.length_singleton]; go_wp2_with fail; refine (sign_any x _ hx).mono ?_; rintro e w3 ⟨rfl, hb3⟩; go_wp2; go_ret; exact ⟨by rw [HTX.out]; rfl, hbw.trans (hb3.mono hsz)⟩
  · have ht : textW ⟨a, b, c, d⟩ = 91 :: (textOf L ++ [93]) := by
      unfold textW; rw [hL, if_neg H256.out, if_neg h1]
    have HTX := Lib.hid ht; have HN := Lib.hid hN; have HP := Lib.hid hp; (have d1 : ((L.length : Int) == 1) = false := by simp; omega); clear ht hL h1 H256 hN hp; go_wp2_with fail; refine (writeByte_any w2.heap.size w2.heap.size [] 91 _ (Lib.IsBuilderF.of (Lib.fresh_isBuilder _ _ w2)) (by simp) (by simp)).mono ?_; rintro e w3 ⟨rfl, hI, hb3, -⟩; have hb3' : Below w2.heap.size w2 w3 := ((Below.refl _ w2).alloc (Nat.le_refl _) _).trans hb3; clear hb3; go_wp2
    go_loopw [3] (fun v wr => txtInv L w2 v wr) (fun v _ => lenOf v)
    case atStart => exact ⟨al, L, cap, [], rfl, hcap, HN.out, HP.out, rfl, hI, hb3'⟩
    case round =>
      obtain ⟨al', l, cap', pre, rfl, hcap', hN, hp, hpre, hI, hb⟩ := hrel
      cases l with
      | nil =>
        have HPR := Lib.hid hpre; have HI := Lib.hid hI; have hszr := hb.size; (have hpe : pre = textOf L := by rw [← hpre, textOf_nil, List.append_nil])
        have hlP : (91 :: pre).length ≤ 2000 := by
          have h2 := textOf_length L; rw [hpe]; simp; omega
        have HPE := Lib.hid hpe; clear hpre hI hpe hN hp; simp only [List.length_nil]; go_wp2_with fail; refine (writeByte_any w2.heap.size w2.heap.size _ 93 _ HI.out (by rw [Lib.byteCells_length]; omega) hszr).mono ?_; rintro e w4 ⟨rfl, hI4, hb4, -⟩; have hb4' := hb.trans hb4
        have hI5 : Lib.IsBuilderF 95 5 w2.heap.size w2.heap.size (Lib.byteCells ((91 :: pre) ++ [93])) w4 := by
          rw [Lib.byteCells_append]; exact hI4
        have HI5 := Lib.hid hI5; clear hI4 hb4 hI5; go_wp2_with fail; refine (Tryz.Builder_String_any_k w2.heap.size w2.heap.size ((91 :: pre) ++ [93]) _ HI5.out hb4'.size).mono ?_; rintro e w5 ⟨rfl, -, hb5, -⟩; go_wp2; go_ret; refine ⟨?_, hbw.trans ((hb4'.trans hb5).mono hsz)⟩; rw [HTX.out, ← HPE.out]; rfl
      | cons x l' =>
        have HI := Lib.hid hI; have HPR := Lib.hid hpre; have HN' := Lib.hid hN; have HP' := Lib.hid hp; have hNr := hN.below hb; have hszr := hb.size; clear hI hpre hp; (have hd0 : (0 : Int) < (l'.length : Int) + 1 := by omega); (have hd1 : decide ((0 : Int) < (l'.length : Int) + 1) = true := by simp); simp only [List.length_cons] at *; go_wp2_with fail; refine (runLength_any al' x l' cap' _ hNr HP'.out).mono ?_; rintro e w4 ⟨rfl, m, rfl⟩; have hle := runFrom_le x l'; have htake : NatsAt (wr.drewN m) al' (List.range' x (1 + runFrom x l')) := hNr.take_run; have hI4 := Lib.hid (show Lib.IsBuilderF 95 5 w2.heap.size w2.heap.size (Lib.byteCells (91 :: pre)) (wr.drewN m) from HI.out); have hb4 : Below w2.heap.size w2 (wr.drewN m) := below_drewN hb m; have hT4 := Lib.hid (textOf_cons x l'); clear hNr HI hb hN; generalize hn : runFrom x l' = r at *; generalize wr.drewN m = W4 at *; have HNR := Lib.hid hn; clear hn; obtain ⟨n, hn⟩ : ∃ n, n = 1 + r := ⟨_, rfl⟩; rw [← hn] at htake ⊢; have HNN := Lib.hid hn; (have q1 : 1 ≤ n := by omega); (have q2 : n ≤ l'.length + 1 := by omega); (have q3 : n ≤ cap' := by omega); (have q4 : (n : Int) ≤ (cap' : Int) := by omega); clear hn; go_wp2_with fail; refine (runText_any al' x n cap' _ htake q1).mono ?_; rintro e w5 ⟨rfl, hb5⟩; have hI5 := Lib.hid (builder_below hI4.out hb5); have hb5' := hb4.trans (hb5.mono hb4.size); have hs5 := hb5'.size; have hlX := segL_length x n
        have hlP : (91 :: pre).length ≤ 2000 := by
          have h1 := congrArg List.length HPR.out; have h2 := textOf_length L; simp at h1 ⊢; omega
        generalize hX : segL x n = X at *; have HX := Lib.hid hX; clear hX hb5 hb4 hI4 htake; go_wp2_with fail; refine (writeString_any w2.heap.size w2.heap.size _ ⟨X.toArray⟩ _ hI5.out ?hl hs5).mono ?_
        case hl =>
          show _ + X.toArray.size ≤ _; rw [Lib.byteCells_length]; simp at hlP ⊢; omega
        rintro e w6 ⟨rfl, hI6, hb6⟩; have HI6 := Lib.hid hI6; have hb6' := hb5'.trans hb6; clear hI6 hb6 hb5' hI5; (have hq5 : (n : Int) ≤ (l'.length : Int) + 1 := by omega)
        have HB6 : Hid (Lib.IsBuilderF 95 5 w2.heap.size w2.heap.size (Lib.byteCells (91 :: (pre ++ X))) w6) := by
          refine Lib.hid ?_; have e : (91 :: (pre ++ X) : List UInt8) = (91 :: pre) ++ X := rfl; rw [e, Lib.byteCells_append, ← strCells_mk X]; exact HI6.out
        have HTE : Hid (pre ++ X ++ textOf (l'.drop r) = textOf L) := by
          refine Lib.hid ?_; rw [← HPR.out, hT4.out, ← HNN.out, HX.out, List.append_assoc]
        by_cases hcn : cap' = n
        · go_wp2; have hr : l'.drop r = [] := List.drop_eq_nil_of_le (by have := HNN.out; omega); refine ⟨⟨al', l'.drop r, 0, pre ++ X, ?_, ?_, ?_, ?_, HTE.out, HB6.out, hb6'⟩, ?_⟩
          · rw [List.length_drop, HNN.out]; congr 1; omega
          · rw [hr]; simp
          · rw [hr]; exact ⟨by simp, by simp, .inl rfl⟩
          · rw [hr]; exact List.Pairwise.nil
          · simp [lenOf]; omega
        · (have hcn' : ¬ (cap' : Int) = (n : Int) := by omega); go_wp2; refine ⟨⟨al'.map fun p => p.add n, l'.drop r, cap' - n, pre ++ X, ?_, ?_, ?_, ?_, HTE.out, HB6.out, hb6'⟩, ?_⟩
          · rw [List.length_drop, HNN.out]; congr 1; omega
          · rw [List.length_drop, HNN.out]; omega
          · rw [HNN.out]; exact HN'.out.drop_run r
          · exact (List.Pairwise.tail HP'.out).drop
          · simp [lenOf]; omega
theorem text_any (s : Ws) (w : World) (hs : s.Ok) (hT : Tab w) :
    Calls Tryz.prog 89 #[s.v] w fun e w' => e = .returned (.string ⟨(textW s).toArray⟩) ∧ Below w.heap.size w w' := by
  by_cases hf : s = Ws.full
  · exact text_full s w hf
  · exact text_some s w hs hT hf
open Go.RowKit
theorem rx_shape (a : Ex) : ∃ k s ks, a.rx = .node k s ks ∧ ((k : Int) == 4) = a.isSeq ∧ ((k : Int) == 5) = a.isAlt := by
  cases a <;> exact ⟨_, _, _, rfl, rfl, rfl⟩
open Go.RowKit
noncomputable def textX (r : Rx) : List UInt8 := if mayR r = true then Classical.epsilon (fun t : List UInt8 => ∃ e : Ex, e.rx = r ∧ t = e.text) else []
theorem textX_no {r : Rx} (h : mayR r = false) : textX r = [] := by simp [textX, h]
theorem textX_yes {e : Ex} (h : mayR e.rx = true) : textX e.rx = e.text := by
  unfold textX; rw [if_pos h]; obtain ⟨e', h1, h2⟩ := Classical.epsilon_spec (p := fun t : List UInt8 => ∃ f : Ex, f.rx = e.rx ∧ t = f.text) ⟨e.text, e, rfl, rfl⟩; rw [h2, Ex.rx_inj e' e h1]
theorem textX_length {ok : Nat → Prop} {w : World} {v : Value} {r : Rx} (h : ReAt ok w v r) : (textX r).length ≤ 4100000 := by
  by_cases hm : mayR r = true
  · obtain ⟨e, rfl, h1, h2⟩ := may_ex h hm; rw [textX_yes hm]; have := text_length e; omega
  · rw [textX_no (by simpa using hm)]; simp
open Go.RowKit
def TextC : Prop := ∀ (ok : Nat → Prop) (r : Rx) (v : Value) (w : World), Tab w → r.size ≤ 1000000 → ReAt ok w v r →
    Calls Tryz.prog 27 #[v] w fun x w' => x = .returned (.string ⟨(textX r).toArray⟩) ∧ Below w.heap.size w w'
theorem Tab.go {w w' : World} (h : Tab w) (hb : Below w.heap.size w w') : Tab w' := h.below hb h.1
theorem may_text {ok : Nat → Prop} {w : World} {v : Value} {r : Rx} (h : ReAt ok w v r) : mayR r = decide (textX r ≠ []) := by
  by_cases hm : mayR r = true
  · obtain ⟨e, rfl, h1, h2⟩ := may_ex h hm; rw [hm, textX_yes hm]; simp [text_ne h1]
  · (have hm' : mayR r = false := by simpa using hm); rw [hm', textX_no hm']; simp
open Go.RowKit
theorem ex_may {e : Ex} (we : e.Wf) (hs : e.size ≤ 2000) : mayR e.rx = true := by
  unfold mayR mayN; rw [good_ex e we, Ex.size_rx, decide_eq_true hs]; rfl
open Go.RowKit
def Pg (B b : Nat) (l : List UInt8) (w : World) : Prop := Lib.IsBuilderF 97 5 B b (Lib.byteCells l) w
def Fr (B b : Nat) (w w' : World) : Prop := Below B w w' ∧ Lib.OthersKept 5 (some b) w w'
theorem Fr.trans {B b : Nat} {u v w : World} (h : Fr B b u v) (k : Fr B b v w) : Fr B b u w := ⟨h.1.trans k.1, h.2.trans k.2⟩
theorem fr_below {B b : Nat} {w w' : World} (h : Below w.heap.size w w') (hB : B ≤ w.heap.size) : Fr B b w w' :=
  ⟨h.mono hB, fun k _ hk _ _ => (h.block k (Array.getElem?_eq_some_iff.1 hk).1).trans hk⟩
theorem Fr.size {B b : Nat} {w w' : World} (h : Fr B b w w') (hB : B ≤ w.heap.size) : B ≤ w'.heap.size := Nat.le_trans hB h.1.size
theorem Fr.box {B b g : Nat} {w w' : World} {X : Array Value} {fz : Nat × Nat} (h : Fr B b w w') (hg : w.heap[g]? = some (.cells X 39 fz)) (hgb : g ≠ b) : w'.heap[g]? = some (.cells X 39 fz) :=
  h.2 g _ hg (by simpa using hgb) (fun c fz h => by simp at h)
theorem Pg.below {B b : Nat} {l : List UInt8} {w w' : World} (h : Pg B b l w) (hb : Below w.heap.size w w') : Pg B b l w' := builder_below h hb
theorem Pg.lt {B b : Nat} {l : List UInt8} {w : World} (h : Pg B b l w) : b < w.heap.size := by
  rcases h with h | h
  · exact h.lt
  · exact h.lt
theorem ReAt.fr {B b : Nat} {w w' : World} {v : Value} {r : Rx} (h : ReAt (Lo B) w v r) (hB : B ≤ w.heap.size) (hf : Fr B b w w') : ReAt (Lo B) w' v r := h.go (kept_lo hB hf.1)
theorem Tab.fr {B b : Nat} {w w' : World} (h : Tab w) (hB : 0 < B) (hf : Fr B b w w') : Tab w' := h.below hf.1 hB
def PgPost (B b : Nat) (l : List UInt8) (w : World) (e : Ending) (w' : World) : Prop := e = .returned (.tuple #[]) ∧ Pg B b l w' ∧ Fr B b w w'
theorem pgByte (B b : Nat) (l : List UInt8) (c : UInt8) (w : World) (h : Pg B b l w) (hlen : l.length + 1 ≤ 1000000000000) (hBw : B ≤ w.heap.size) :
    Calls Tryz.prog 91 #[.pointer (some ⟨b, 0, none⟩), .int .u8 c.toNat] w fun e w' => e = .returned .nilIface ∧ Pg B b (l ++ [c]) w' ∧ Fr B b w w' := by
  refine (pg_writeByte_any B b _ _ w h (by rw [Lib.byteCells_length]; omega) hBw).mono ?_; rintro e w' ⟨rfl, h1, h2, h3⟩; refine ⟨rfl, ?_, h2, h3⟩; unfold Pg; rw [Lib.byteCells_append]; exact h1
theorem pgText (B b : Nat) (l s : List UInt8) (w : World) (h : Pg B b l w) (hlen : l.length + s.length ≤ 1000000000000) (hBw : B ≤ w.heap.size) :
    Calls Tryz.prog 88 #[.pointer (some ⟨b, 0, none⟩), .string ⟨s.toArray⟩] w fun e w' => (∃ n, e = .returned (.tuple #[.int .i64 n, .nilIface])) ∧ Pg B b (l ++ s) w' ∧ Fr B b w w' := by
  refine (pg_writeString_any B b _ _ w h (by rw [Lib.byteCells_length]; show _ + s.toArray.size ≤ _; simp; omega) hBw).mono ?_; rintro e w' ⟨rfl, h1, h2, h3⟩; refine ⟨⟨_, rfl⟩, ?_, h2, h3⟩; unfold Pg; rw [Lib.byteCells_append, ← strCells_mk s]; exact h1
def NodeC (B N : Nat) : Prop := ∀ (e : Ex), e.size ≤ N → ∀ (v : Value) (w : World) (b : Nat) (pre : List UInt8), e.Wf → Tab w → B ≤ w.heap.size → pre.length + e.text.length ≤ 1000000000000 → Pg B b pre w → ReAt (Lo B) w v e.rx →
    Calls Tryz.prog 58 #[.pointer (some ⟨b, 0, none⟩), v] w (PgPost B b (pre ++ e.text) w)
set_option maxHeartbeats 2000000 in
theorem kid_any {B N : Nat} (hGB : 0 < B) (ih : NodeC B N) (e : Ex) (hN : e.size ≤ N) (br : List UInt8) (a : Option Addr) (cap' : Nat) (v : Value) (w : World) (b : Nat) (pre : List UInt8) (q : Bool) (k : Nat) (s : Ws) (ks : List Rx) (hrx : e.rx = .node k s ks) (hq : anyB br k = q) (hbl : br.length ≤ 1000) (hbr : BytesAt w a br)
    (we : e.Wf) (hT : Tab w) (hB : B ≤ w.heap.size) (hlen : pre.length + (roundL e.text q).length ≤ 1000000000000) (hP : Pg B b pre w) (hR : ReAt (Lo B) w v e.rx) :
    Calls Tryz.prog 90 #[.pointer (some ⟨b, 0, none⟩), v, .slice a br.length cap'] w (PgPost B b (pre ++ roundL e.text q) w) := by
  have HR := Lib.hid hR; have HT := Lib.hid hT; have HP := Lib.hid hP; rw [hrx] at hR; obtain ⟨_, _, al, cap, rfl, hcap, hmax, hrow⟩ := hR; have KI := Lib.hid fun W (p : List UInt8) (hl : p.length + e.text.length ≤ 1000000000000) (hf : Fr B b w W) (hp : Pg B b p W) => ih e hN _ W b p we (HT.out.fr hGB hf) (hf.size hB) hl hp (HR.out.fr hB hf); have KC := Lib.hid fun W (h : Below w.heap.size w W) => containsB_any br k a cap' W hbl (hbr.below h); (have hgb : w.heap.size ≠ b := fun h => by have := HP.out.lt; omega); rw [hq] at KC; generalize e.text = T at *; obtain ⟨ta, tb, tc, td⟩ := s; clear hbr ih hrow HR HT hT hP; go_enter Tryz.func90, Tryz.ntmps90; go_wp2_with fail; have hb0 : Below w.heap.size w (w.alloc (.cells #[.int .u8 k, .int .u64 ta, .int .u64 tb, .int .u64 tc, .int .u64 td, .slice al ks.length cap] 39)) := (Below.refl _ w).alloc (Nat.le_refl _) _; refine (KC.out _ hb0).mono ?_; rintro e' w1 ⟨rfl, hb1⟩; have hx := (hb1.block w.heap.size (by simp)).trans (blk_new w _); obtain ⟨x0, x1, x2, x3, x4, x5, -⟩ := cellsR hx; have hb := hb0.trans (hb1.mono (by simp)); have F1 := Lib.hid (fr_below (b := b) hb hB); have P1 := Lib.hid (HP.out.below hb); clear hb0 hb1 hb
  cases q with
  | false =>
    simp only [roundL, if_false, Bool.false_eq_true] at hlen; go_wp2_with fail; refine (KI.out _ _ hlen F1.out P1.out).mono ?_; rintro e' w2 ⟨rfl, hp2, hf2⟩; have P2 := Lib.hid hp2; have F2 := Lib.hid (F1.out.trans hf2); clear hp2 hf2 x0 x1 x2 x3 x4 x5 hx; go_wp2; go_end0; exact ⟨rfl, P2.out, F2.out⟩
  | true =>
    (have hlen' : pre.length + (T.length + 2) ≤ 1000000000000 := by simpa [roundL] using hlen); clear hlen; go_wp2_with fail; refine (pgByte B b pre 40 _ P1.out (by omega) (F1.out.size hB)).mono ?_; rintro e' w2 ⟨rfl, hp2, hf2⟩; have P2 := Lib.hid hp2; have F2 := Lib.hid (F1.out.trans hf2); have hx2 := hf2.box hx hgb; clear hp2 hf2 x0 x1 x2 x3 x4 x5 hx; obtain ⟨x0, x1, x2, x3, x4, x5, -⟩ := cellsR hx2; go_wp2_with fail; refine (KI.out _ _ (by simp; omega) F2.out P2.out).mono ?_; rintro e' w3 ⟨rfl, hp3, hf3⟩; have P3 := Lib.hid hp3; have F3 := Lib.hid (F2.out.trans hf3); clear hp3 hf3 x0 x1 x2 x3 x4 x5 hx2; go_wp2_with fail; refine (pgByte B b _ 41 _ P3.out (by simp; omega) (F3.out.size hB)).mono ?_; rintro e' w4 ⟨rfl, hp4, hf4⟩; have P4 := Lib.hid hp4; have F4 := Lib.hid (F3.out.trans hf4); clear hp4 hf4; go_wp2; go_end0; exact ⟨rfl, by simpa [roundL] using P4.out, F4.out⟩
open Go.RowKit
set_option maxHeartbeats 2000000 in
theorem node_lit {B : Nat} (k : Nat) (t : List UInt8) (hk : (k = 1 ∧ t = [91, 93]) ∨ (k = 2 ∧ t = [40, 41])) (v : Value) (w : World) (b : Nat) (pre : List UInt8) (hB : B ≤ w.heap.size) (hlen : pre.length + t.length ≤ 1000000000000) (hP : Pg B b pre w) (hR : ReAt (Lo B) w v (.node k Ws.nil [])) :
    Calls Tryz.prog 58 #[.pointer (some ⟨b, 0, none⟩), v] w (PgPost B b (pre ++ t) w) := by
  obtain ⟨_, _, al, cap, rfl, hcap, hmax, hrow⟩ := hR; have HP := Lib.hid hP; clear hrow hP; have hb0 : Below w.heap.size w (w.alloc (.cells #[.int .u8 k, .int .u64 0, .int .u64 0, .int .u64 0, .int .u64 0, .slice al 0 cap] 39)) := (Below.refl _ w).alloc (Nat.le_refl _) _; have F1 := Lib.hid (fr_below (b := b) hb0 hB); have P1 := Lib.hid (HP.out.below hb0); have KT := Lib.hid (pgText B b pre t _ P1.out hlen (F1.out.size hB)); clear hb0 hlen
  rcases hk with ⟨rfl, rfl⟩ | ⟨rfl, rfl⟩
  · go_enter Tryz.func58, Tryz.ntmps58; go_wp2_with fail; refine KT.out.mono ?_; rintro e' w2 ⟨⟨n, rfl⟩, hp2, hf2⟩; have P2 := Lib.hid hp2; have F2 := Lib.hid (F1.out.trans hf2); clear hp2 hf2; go_wp2; go_end0; exact ⟨rfl, P2.out, F2.out⟩
  · go_enter Tryz.func58, Tryz.ntmps58; go_wp2_with fail; refine KT.out.mono ?_; rintro e' w2 ⟨⟨n, rfl⟩, hp2, hf2⟩; have P2 := Lib.hid hp2; have F2 := Lib.hid (F1.out.trans hf2); clear hp2 hf2; go_wp2; go_end0; exact ⟨rfl, P2.out, F2.out⟩
set_option maxHeartbeats 2000000 in
theorem node_cls {B : Nat} (hGB : 0 < B) (s : Ws) (hs : s.Ok) (v : Value) (w : World) (b : Nat) (pre : List UInt8) (hT : Tab w) (hB : B ≤ w.heap.size) (hlen : pre.length + (textW s).length ≤ 1000000000000) (hP : Pg B b pre w) (hR : ReAt (Lo B) w v (.node 3 s [])) :
    Calls Tryz.prog 58 #[.pointer (some ⟨b, 0, none⟩), v] w (PgPost B b (pre ++ textW s) w) := by
  obtain ⟨_, _, al, cap, rfl, hcap, hmax, hrow⟩ := hR; have HP := Lib.hid hP; have KS := Lib.hid fun W (hf : Fr B b w W) => text_any s W hs (hT.fr hGB hf); generalize textW s = T at *; obtain ⟨ta, tb, tc, td⟩ := s; unfold Ws.v at KS; simp only at KS; clear hrow hP hT; go_enter Tryz.func58, Tryz.ntmps58; have hb0 : Below w.heap.size w (w.alloc (.cells #[.int .u8 3, .int .u64 ta, .int .u64 tb, .int .u64 tc, .int .u64 td, .slice al 0 cap] 39)).drew := ((Below.refl _ w).alloc (Nat.le_refl _) _).drew; have F1 := Lib.hid (fr_below (b := b) hb0 hB); have P1 := Lib.hid (HP.out.below hb0); clear hb0; go_wp2_with fail
  go_region_with (first
    | (go_at_call 89; (refine (KS.out _ F1.out).mono ?_); (rintro e' w1 ⟨rfl, hb1⟩); (have P2 := Lib.hid (P1.out.below hb1)); (have F2 := Lib.hid (F1.out.trans (fr_below hb1 (F1.out.size hB)))); clear hb1)
    | (go_at_call 88; (refine (pgText B b pre T _ P2.out hlen (F2.out.size hB)).mono ?_); (rintro e' w2 ⟨⟨n, rfl⟩, hp2, hf2⟩); (have P3 := Lib.hid hp2); (have F3 := Lib.hid (F2.out.trans hf2)); clear hp2 hf2)
    | fail)
  all_goals (go_wp2; go_end0; exact ⟨rfl, P3.out, F3.out⟩)
open Go.RowKit
theorem any45 {a : Ex} {k : Nat} {s : Ws} {ks : List Rx} (h : a.rx = .node k s ks) : anyB [4, 5] k = (a.isSeq || a.isAlt) := by
  cases a <;> simp [Ex.rx] at h <;> obtain ⟨rfl, -⟩ := h <;> rfl
theorem any5 {a : Ex} {k : Nat} {s : Ws} {ks : List Rx} (h : a.rx = .node k s ks) : anyB [5] k = a.isAlt := by
  cases a <;> simp [Ex.rx] at h <;> obtain ⟨rfl, -⟩ := h <;> rfl
theorem br_two {g : Nat} (W : World) (hg : g = W.heap.size) : BytesAt (W.alloc (.cells #[.int .u8 4, .int .u8 5] 5)) (some ⟨g, 0, none⟩) [4, 5] := by
  subst hg; refine ⟨by decide, .inr ⟨_, 0, rfl, by simp, fun i h => ?_⟩⟩
  match i, h with
  | 0, _ => simp
  | 1, _ => simp
theorem br_one {g : Nat} (W : World) (hg : g = W.heap.size) : BytesAt (W.alloc (.cells #[.int .u8 5] 5)) (some ⟨g, 0, none⟩) [5] := by
  subst hg; refine ⟨by decide, .inr ⟨_, 0, rfl, by simp, fun i h => ?_⟩⟩
  match i, h with
  | 0, _ => simp
theorem cells_fr {B b' off : Nat} {w W : World} {k : Nat} {ta tb tc td : Nat} {al : Option Addr} {n cap : Nat} (hlo : b' < B) (hf : Below B w W)
    (h : w.cell? ⟨b', off, none⟩ = some (.int .u8 k) ∧ w.cell? ⟨b', off + 1, none⟩ = some (.int .u64 ta) ∧ w.cell? ⟨b', off + 2, none⟩ = some (.int .u64 tb) ∧ w.cell? ⟨b', off + 3, none⟩ = some (.int .u64 tc) ∧ w.cell? ⟨b', off + 4, none⟩ = some (.int .u64 td) ∧ w.cell? ⟨b', off + 5, none⟩ = some (.slice al n cap)) :
    W.cell? ⟨b', off, none⟩ = some (.int .u8 k) ∧ W.cell? ⟨b', off + 1, none⟩ = some (.int .u64 ta) ∧ W.cell? ⟨b', off + 2, none⟩ = some (.int .u64 tb) ∧ W.cell? ⟨b', off + 3, none⟩ = some (.int .u64 tc) ∧ W.cell? ⟨b', off + 4, none⟩ = some (.int .u64 td) ∧ W.cell? ⟨b', off + 5, none⟩ = some (.slice al n cap) := by
  obtain ⟨d0, d1, d2, d3, d4, d5⟩ := h; have e := fun o => hf.cell (p := ⟨b', o, none⟩) hlo; exact ⟨by rw [e]; exact d0, by rw [e]; exact d1, by rw [e]; exact d2, by rw [e]; exact d3, by rw [e]; exact d4, by rw [e]; exact d5⟩
set_option maxHeartbeats 2000000 in
theorem node_star {B N : Nat} (hGB : 0 < B) (ih : NodeC B N) (a : Ex) (hN : a.size ≤ N) (v : Value) (w : World) (b : Nat) (pre : List UInt8) (wa : a.Wf) (hT : Tab w) (hB : B ≤ w.heap.size) (hlen : pre.length + (Ex.star a).text.length ≤ 1000000000000) (hP : Pg B b pre w) (hR : ReAt (Lo B) w v (Ex.star a).rx) :
    Calls Tryz.prog 58 #[.pointer (some ⟨b, 0, none⟩), v] w (PgPost B b (pre ++ (Ex.star a).text) w) := by
  obtain ⟨_, _, al, cap, rfl, hcap, hmax, hrow⟩ := hR; obtain ⟨b', off, hab, hblt, hlo, hnode⟩ := RowAt.kidOk hrow (i := 0) (by simp); subst hab; simp only [List.getElem_cons_zero, Nat.zero_mul, Nat.add_zero] at hnode; rw [text_star] at hlen ⊢; have hit : a.item = roundL a.text (a.isSeq || a.isAlt) := rfl; rw [hit] at hlen ⊢; obtain ⟨ka, sa, ksa, hrx, -, -⟩ := rx_shape a; have hnode' := hnode; rw [hrx] at hnode'; obtain ⟨ta, tb, tc, td⟩ := sa; obtain ⟨bl, bcap, ⟨c0, c1, c2, c3, c4, c5⟩, hre⟩ := hnode'.read; simp only at c0 c1 c2 c3 c4 c5; rw [← hrx] at hre; have HP := Lib.hid hP; have KK := Lib.hid fun (br : List UInt8) (A : Option Addr) (c' : Nat) W (p : List UInt8) (q : Bool) (hq : anyB br ka = q) (hbl : br.length ≤ 1000) (hbr : BytesAt W A br) (hl : p.length + (roundL a.text q).length ≤ 1000000000000) (hf : Fr B b w W) (hp : Pg B b p W) => kid_any hGB ih a hN br A c' _ W b p q ka _ ksa hrx hq hbl hbr wa (hT.fr hGB hf) (hf.size hB) hl hp (hre.fr hB hf); have HQ := Lib.hid (any45 hrx); generalize (a.isSeq || a.isAlt) = q at *; (have hgb : w.heap.size ≠ b := fun h => by have := HP.out.lt; omega); generalize a.text = T at *; clear hrow hnode hnode' hre hrx hit hT hP ih; simp only [List.length_append, List.length_cons, List.length_nil, Nat.zero_add] at hlen; simp only [List.length_cons, List.length_nil, Nat.zero_add] at *; go_enter Tryz.func58, Tryz.ntmps58; go_wp2_with fail; have hb0 := fun o o' => ((Below.refl _ w).alloc (Nat.le_refl _) o).alloc (by simp) o'; refine (KK.out [4, 5] _ 2 _ pre q HQ.out (by decide) (br_two _ (by simp)) (by omega) (fr_below (hb0 _ _) hB) (HP.out.below (hb0 _ _))).mono ?_; rintro e' w1 ⟨rfl, hp1, hf1⟩; have P1 := Lib.hid hp1; have F1 := Lib.hid ((fr_below (b := b) (hb0 _ _) hB).trans hf1); clear hp1 hf1 c0 c1 c2 c3 c4 c5 hb0; go_wp2_with fail; refine (pgByte B b _ 42 _ P1.out (by simp; omega) (F1.out.size hB)).mono ?_; rintro e' w2 ⟨rfl, hp2, hf2⟩; have P2 := Lib.hid hp2; have F2 := Lib.hid (F1.out.trans hf2); clear hp2 hf2; go_wp2; go_end0; exact ⟨rfl, by rw [← List.append_assoc]; exact P2.out, F2.out⟩
set_option maxHeartbeats 4000000 in
theorem node_seq {B N : Nat} (hGB : 0 < B) (ih : NodeC B N) (a c : Ex) (hN : a.size ≤ N) (hN' : c.size ≤ N) (v : Value) (w : World) (b : Nat) (pre : List UInt8) (wa : a.Wf) (wc : c.Wf) (hT : Tab w) (hB : B ≤ w.heap.size) (hlen : pre.length + (Ex.seq a c).text.length ≤ 1000000000000) (hP : Pg B b pre w) (hR : ReAt (Lo B) w v (Ex.seq a c).rx) :
    Calls Tryz.prog 58 #[.pointer (some ⟨b, 0, none⟩), v] w (PgPost B b (pre ++ (Ex.seq a c).text) w) := by
  obtain ⟨_, _, al, cap, rfl, hcap, hmax, hrow⟩ := hR; obtain ⟨b', off, hab, hblt, hlo, hnode⟩ := RowAt.kidOk hrow (i := 0) (by simp); obtain ⟨b'', off'', hab', _, _, hnode2⟩ := RowAt.kidOk hrow (i := 1) (by simp); subst hab; simp at hab'; obtain ⟨rfl, rfl⟩ := hab'; simp only [List.getElem_cons_zero, List.getElem_cons_succ, Nat.zero_mul, Nat.add_zero, Nat.one_mul] at hnode hnode2; rw [text_seq] at hlen ⊢; have hit : a.item = roundL a.text (a.isSeq || a.isAlt) := rfl; have hit' : c.part = roundL c.text c.isAlt := rfl; rw [hit, hit'] at hlen ⊢; obtain ⟨ka, sa, ksa, hrx, -, -⟩ := rx_shape a; obtain ⟨kc, sc, ksc, hrxc, -, -⟩ := rx_shape c; rw [hrx] at hnode; rw [hrxc] at hnode2; obtain ⟨ta, tb, tc, td⟩ := sa; obtain ⟨ta', tb', tc', td'⟩ := sc; obtain ⟨bl, bcap, ⟨c0, c1, c2, c3, c4, c5⟩, hre⟩ := hnode.read; obtain ⟨bl', bcap', hcc, hre'⟩ := hnode2.read; simp only at c0 c1 c2 c3 c4 c5 hcc; rw [← hrx] at hre; rw [← hrxc] at hre'; have HP := Lib.hid hP; have KK := Lib.hid fun (br : List UInt8) (A : Option Addr) (c' : Nat) W (p : List UInt8) (q : Bool) (hq : anyB br ka = q) (hbl : br.length ≤ 1000) (hbr : BytesAt W A br) (hl : p.length + (roundL a.text q).length ≤ 1000000000000) (hf : Fr B b w W) (hp : Pg B b p W) => kid_any hGB ih a hN br A c' _ W b p q ka _ ksa hrx hq hbl hbr wa (hT.fr hGB hf) (hf.size hB) hl hp (hre.fr hB hf); have KC := Lib.hid fun (br : List UInt8) (A : Option Addr) (c' : Nat) W (p : List UInt8) (q : Bool) (hq : anyB br kc = q) (hbl : br.length ≤ 1000) (hbr : BytesAt W A br) (hl : p.length + (roundL c.text q).length ≤ 1000000000000) (hf : Fr B b w W) (hp : Pg B b p W) => kid_any hGB ih c hN' br A c' _ W b p q kc _ ksc hrxc hq hbl hbr wc (hT.fr hGB hf) (hf.size hB) hl hp (hre'.fr hB hf); have HC := Lib.hid fun W (hf : Fr B b w W) => cells_fr hlo hf.1 hcc; have HQ := Lib.hid (any45 hrx); have HQ' := Lib.hid (any5 hrxc); generalize (a.isSeq || a.isAlt) = q at *; generalize c.isAlt = q' at *; (have hgb : w.heap.size ≠ b := fun h => by have := HP.out.lt; omega); generalize a.text = T at *; generalize c.text = U at *; clear hrow hnode hnode2 hre hre' hrx hrxc hit hit' hT hP ih hcc; simp only [List.length_append] at hlen; simp only [List.length_cons, List.length_nil, Nat.zero_add] at *; go_enter Tryz.func58, Tryz.ntmps58; go_wp2_with fail; have hb0 := fun o o' => ((Below.refl _ w).alloc (Nat.le_refl _) o).alloc (by simp) o'; refine (KK.out [4, 5] _ 2 _ pre q HQ.out (by decide) (br_two _ (by simp)) (by omega) (fr_below (hb0 _ _) hB) (HP.out.below (hb0 _ _))).mono ?_; rintro e' w1 ⟨rfl, hp1, hf1⟩; have hx := hf1.box ((Below.heap_alloc _ _ _ (by simp)).trans (blk_new w _)) hgb; have P1 := Lib.hid hp1; have F1 := Lib.hid ((fr_below (b := b) (hb0 _ _) hB).trans hf1); clear hp1 hf1 c0 c1 c2 c3 c4 c5 hb0; obtain ⟨x0, x1, x2, x3, x4, x5, -⟩ := cellsR hx; obtain ⟨c0, c1, c2, c3, c4, c5⟩ := HC.out _ F1.out; have hw1 := hx; go_wp2_with fail; have hb1 := fun o => (Below.refl _ w1).alloc (Nat.le_refl _) o; refine (KC.out [5] _ 1 _ _ q' HQ'.out (by decide) (br_one _ rfl) (by simp; omega) (F1.out.trans (fr_below (hb1 _) (F1.out.size hB))) (P1.out.below (hb1 _))).mono ?_; rintro e' w3 ⟨rfl, hp3, hf3⟩; have P3 := Lib.hid hp3; have F3 := Lib.hid ((F1.out.trans (fr_below (hb1 _) (F1.out.size hB))).trans hf3); clear hp3 hf3 x0 x1 x2 x3 x4 x5 c0 c1 c2 c3 c4 c5 hx; go_wp2; go_end0; exact ⟨rfl, by rw [← List.append_assoc]; exact P3.out, F3.out⟩
set_option maxHeartbeats 4000000 in
theorem node_alt {B N : Nat} (hGB : 0 < B) (ih : NodeC B N) (a c : Ex) (hN : a.size ≤ N) (hN' : c.size ≤ N) (v : Value) (w : World) (b : Nat) (pre : List UInt8) (wa : a.Wf) (wc : c.Wf) (hT : Tab w) (hB : B ≤ w.heap.size) (hlen : pre.length + (Ex.alt a c).text.length ≤ 1000000000000) (hP : Pg B b pre w) (hR : ReAt (Lo B) w v (Ex.alt a c).rx) :
    Calls Tryz.prog 58 #[.pointer (some ⟨b, 0, none⟩), v] w (PgPost B b (pre ++ (Ex.alt a c).text) w) := by
  obtain ⟨_, _, al, cap, rfl, hcap, hmax, hrow⟩ := hR; obtain ⟨b', off, hab, hblt, hlo, hnode⟩ := RowAt.kidOk hrow (i := 0) (by simp); obtain ⟨b'', off'', hab', _, _, hnode2⟩ := RowAt.kidOk hrow (i := 1) (by simp); subst hab; simp at hab'; obtain ⟨rfl, rfl⟩ := hab'; simp only [List.getElem_cons_zero, List.getElem_cons_succ, Nat.zero_mul, Nat.add_zero, Nat.one_mul] at hnode hnode2; rw [text_alt] at hlen ⊢; have hit : a.part = roundL a.text a.isAlt := rfl; have hit' : c.text = roundL c.text false := rfl; rw [hit] at hlen ⊢; obtain ⟨ka, sa, ksa, hrx, -, -⟩ := rx_shape a; obtain ⟨kc, sc, ksc, hrxc, -, -⟩ := rx_shape c; rw [hrx] at hnode; rw [hrxc] at hnode2; obtain ⟨ta, tb, tc, td⟩ := sa; obtain ⟨ta', tb', tc', td'⟩ := sc; obtain ⟨bl, bcap, ⟨c0, c1, c2, c3, c4, c5⟩, hre⟩ := hnode.read; obtain ⟨bl', bcap', hcc, hre'⟩ := hnode2.read; simp only at c0 c1 c2 c3 c4 c5 hcc; rw [← hrx] at hre; rw [← hrxc] at hre'; have HP := Lib.hid hP; have KK := Lib.hid fun (br : List UInt8) (A : Option Addr) (c' : Nat) W (p : List UInt8) (q : Bool) (hq : anyB br ka = q) (hbl : br.length ≤ 1000) (hbr : BytesAt W A br) (hl : p.length + (roundL a.text q).length ≤ 1000000000000) (hf : Fr B b w W) (hp : Pg B b p W) => kid_any hGB ih a hN br A c' _ W b p q ka _ ksa hrx hq hbl hbr wa (hT.fr hGB hf) (hf.size hB) hl hp (hre.fr hB hf); have KC := Lib.hid fun (br : List UInt8) (A : Option Addr) (c' : Nat) W (p : List UInt8) (q : Bool) (hq : anyB br kc = q) (hbl : br.length ≤ 1000) (hbr : BytesAt W A br) (hl : p.length + (roundL c.text q).length ≤ 1000000000000) (hf : Fr B b w W) (hp : Pg B b p W) => kid_any hGB ih c hN' br A c' _ W b p q kc _ ksc hrxc hq hbl hbr wc (hT.fr hGB hf) (hf.size hB) hl hp (hre'.fr hB hf); have HC := Lib.hid fun W (hf : Fr B b w W) => cells_fr hlo hf.1 hcc; have HQ := Lib.hid (any5 hrx); generalize a.isAlt = q at *; (have hgb : w.heap.size ≠ b := fun h => by have := HP.out.lt; omega); generalize a.text = T at *; generalize c.text = U at *; clear hrow hnode hnode2 hre hre' hrx hrxc hit hit' hT hP ih hcc; simp only [List.length_append, List.length_cons] at hlen; simp only [List.length_cons, List.length_nil, Nat.zero_add] at *; go_enter Tryz.func58, Tryz.ntmps58; go_wp2_with fail; have hb0 := fun o o' => ((Below.refl _ w).alloc (Nat.le_refl _) o).alloc (by simp) o'; refine (KK.out [5] _ 1 _ pre q HQ.out (by decide) (br_one _ (by simp)) (by omega) (fr_below (hb0 _ _) hB) (HP.out.below (hb0 _ _))).mono ?_; rintro e' w1 ⟨rfl, hp1, hf1⟩; have hx := hf1.box ((Below.heap_alloc _ _ _ (by simp)).trans (blk_new w _)) hgb; have P1 := Lib.hid hp1; have F1 := Lib.hid ((fr_below (b := b) (hb0 _ _) hB).trans hf1); clear hp1 hf1 c0 c1 c2 c3 c4 c5 hb0; go_wp2_with fail; refine (pgByte B b _ 124 _ P1.out (by simp; omega) (F1.out.size hB)).mono ?_; rintro e' w2 ⟨rfl, hp2, hf2⟩; have P2 := Lib.hid hp2; have F2 := Lib.hid (F1.out.trans hf2); replace hx := hf2.box hx hgb; clear hp2 hf2; obtain ⟨x0, x1, x2, x3, x4, x5, -⟩ := cellsR hx; obtain ⟨c0, c1, c2, c3, c4, c5⟩ := HC.out _ F2.out; go_wp2_with fail; refine (KC.out [] none 0 _ _ false rfl (by decide) ⟨by decide, .inl rfl⟩ (by have hU : (roundL U false).length = U.length := rfl; simp only [List.length_append, List.length_cons, List.length_nil]; omega) F2.out P2.out).mono ?_; rintro e' w3 ⟨rfl, hp3, hf3⟩; have P3 := Lib.hid hp3; have F3 := Lib.hid (F2.out.trans hf3); clear hp3 hf3 x0 x1 x2 x3 x4 x5 c0 c1 c2 c3 c4 c5 hx; go_wp2; go_end0; refine ⟨rfl, ?_, F3.out⟩; (have e : pre ++ (roundL T q ++ 124 :: U) = pre ++ roundL T q ++ [124] ++ roundL U false := by simp [roundL]); rw [e]; exact P3.out
theorem node_any {B : Nat} (hGB : 0 < B) (N : Nat) : NodeC B N := by
  induction N with
  | zero =>
    intro e he
    have : 0 < e.size := by cases e <;> simp [Ex.size] <;> omega
    omega
  | succ N ih =>
    intro e he v w b pre we hT hB hlen hP hR
    cases e with
    | empty => exact node_lit 1 _ (.inl ⟨rfl, rfl⟩) v w b pre hB hlen hP hR
    | eps => exact node_lit 2 _ (.inr ⟨rfl, rfl⟩) v w b pre hB hlen hP hR
    | cls s => exact node_cls hGB s we.1 v w b pre hT hB hlen hP hR
    | seq a c =>
      have hz : (Ex.seq a c).size = 1 + a.size + c.size := rfl; exact node_seq hGB ih a c (by omega) (by omega) v w b pre we.1 we.2 hT hB hlen hP hR
    | alt a c =>
      have hz : (Ex.alt a c).size = 1 + a.size + c.size := rfl; exact node_alt hGB ih a c (by omega) (by omega) v w b pre we.1 we.2 hT hB hlen hP hR
    | star a =>
      have hz : (Ex.star a).size = 1 + a.size := rfl; exact node_star hGB ih a (by omega) v w b pre we hT hB hlen hP hR
open Go.RowKit
def WholePost (B b : Nat) (pre T : List UInt8) (q : Bool) (w : World) (e : Ending) (w' : World) : Prop := e = .returned (.tuple #[]) ∧ Pg B b (pre ++ T) w' ∧ Fr B b w w' ∧ (q = false → Below w.heap.size w w')
set_option maxHeartbeats 2000000 in
theorem whole_any {B : Nat} (hGB : 0 < B) (r : Rx) (v : Value) (w : World) (b : Nat) (pre : List UInt8) (hT : Tab w) (hB : B ≤ w.heap.size) (hlen : pre.length ≤ 900000000000) (hP : Pg B b pre w) (hR : ReAt (Lo B) w v r) :
    Calls Tryz.prog 42 #[.pointer (some ⟨b, 0, none⟩), v] w (WholePost B b pre (textX r) (mayR r) w) := by
  have HP := Lib.hid hP; (have hgb : w.heap.size ≠ b := fun h => by have := HP.out.lt; omega)
  have hmx : mayR r = true → ∃ e : Ex, e.rx = r ∧ e.Wf ∧ textX r = e.text ∧ e.text.length ≤ 4100000 := fun hm => by
    obtain ⟨e, he, h1, h2⟩ := may_ex hR hm; subst he; have := text_length e; exact ⟨e, rfl, h1, textX_yes hm, by omega⟩
  have KN := Lib.hid fun (hm : mayR r = true) W (hf : Fr B b w W) (hp : Pg B b pre W) => show Calls Tryz.prog 58 #[.pointer (some ⟨b, 0, none⟩), v] W (PgPost B b (pre ++ textX r) W) from by
    obtain ⟨e, rfl, h1, h2, h3⟩ := hmx hm; rw [h2]; exact node_any hGB e.size e (Nat.le_refl _) v W b pre h1 (hT.fr hGB hf) (hf.size hB) (by omega) hp (hR.fr hB hf)
  obtain ⟨x0, x1, x2, x3, x4, xl, xn, xc, rfl⟩ := cells_re hR; have KM := Lib.hid fun W (h : Below w.heap.size w W) (g : Nat) (hg : g = W.heap.size) => mayX [r] (some ⟨g, 0, none⟩) 1 (W.alloc (.cells #[.int .u8 x0, .int .u64 x1, .int .u64 x2, .int .u64 x3, .int .u64 x4, .slice xl xn xc] 39)) (by simp) (by subst hg; exact row_new (hR.below h)); have HNO := Lib.hid (fun h : mayR r = false => textX_no h); (have e1 : [r].all mayR = mayR r := by simp); rw [e1] at KM; clear hmx hT hP hR e1; generalize textX r = T at *; generalize mayR r = q at *; go_enter Tryz.func42, Tryz.ntmps42; go_wp2_with fail; have hb0 := fun o o' => ((Below.refl _ w).alloc (Nat.le_refl _) o).alloc (by simp) o'; refine (KM.out _ ((Below.refl _ w).alloc (Nat.le_refl _) _) _ (by simp)).mono ?_; rintro e' w1 ⟨rfl, hb1⟩; have hx := (hb1.block w.heap.size (by simp; omega)).trans ((Below.heap_alloc _ _ _ (by simp)).trans (blk_new w _)); have hb := (hb0 _ _).trans (hb1.mono (by simp; omega)); clear hb0 hb1; obtain ⟨y0, y1, y2, y3, y4, y5, -⟩ := cellsR hx; have F1 := Lib.hid (fr_below (b := b) hb hB); have P1 := Lib.hid (HP.out.below hb); have HB := Lib.hid hb; clear hb
  cases q with
  | true =>
    go_wp2_with fail; refine (KN.out trivial _ F1.out P1.out).mono ?_; rintro e' w2 ⟨rfl, hp2, hf2⟩; have P2 := Lib.hid hp2; have F2 := Lib.hid (F1.out.trans hf2); clear hp2 hf2 y0 y1 y2 y3 y4 y5 hx; go_wp2; go_end0; exact ⟨rfl, P2.out, F2.out, fun h => by simp at h⟩
  | false =>
    clear y0 y1 y2 y3 y4 y5 hx; go_wp2; go_end0; exact ⟨rfl, by rw [HNO.out trivial, List.append_nil]; exact P1.out, F1.out, fun _ => HB.out⟩
set_option maxHeartbeats 2000000 in
theorem showText : TextC := by
  intro ok r v w hT _ hR; have hml := textX_length hR; have hmt := may_text hR; obtain ⟨x0, x1, x2, x3, x4, xl, xn, xc, rfl⟩ := cells_re hR
  have hre : ∀ o, ReAt (Lo (w.alloc o).heap.size) (w.alloc o) (.agg #[.int .u8 x0, .int .u64 x1, .int .u64 x2, .int .u64 x3, .int .u64 x4, .slice xl xn xc]) r := fun o =>
    (hR.imp (ok' := Lo (w.alloc o).heap.size) fun b hb _ => by show b < (w.alloc o).heap.size; simp; omega).below ((Below.refl _ w).alloc (Nat.le_refl _) o)
  have hTa : ∀ o, Tab (w.alloc o) := fun o => hT.go ((Below.refl _ w).alloc (Nat.le_refl _) o); have hG := hT.1
  have K := Lib.hid fun (o : Obj) (g : Nat) (hg : g = (w.alloc o).heap.size) => show Calls Tryz.prog 42 #[.pointer (some ⟨g, 0, none⟩), .agg #[.int .u8 x0, .int .u64 x1, .int .u64 x2, .int .u64 x3, .int .u64 x4, .slice xl xn xc]] ((w.alloc o).alloc (.cells #[.pointer none, .slice none 0 0] 97)) (WholePost (w.alloc o).heap.size g [] (textX r) (mayR r) ((w.alloc o).alloc (.cells #[.pointer none, .slice none 0 0] 97))) from by
    subst hg; have hb := (Below.refl (w.alloc o).heap.size (w.alloc o)).alloc (Nat.le_refl _) (.cells #[.pointer none, .slice none 0 0] 97); exact whole_any (by first | (simp; done) | (simp; omega)) r _ _ _ [] ((hTa o).go hb) hb.size (by simp) (Lib.IsBuilderF.of (Lib.fresh_isBuilder _ _ _)) ((hre o).below hb)
  clear hR hre hT hTa; generalize textX r = T at *; generalize mayR r = q at *; have HMT := Lib.hid hmt; clear hmt; go_enter Tryz.func27, Tryz.ntmps27; go_wp2_with fail; refine (K.out _ _ (by simp)).mono ?_; rintro e' w1 ⟨rfl, hp, hf, hb⟩; have hbw : Below w.heap.size w w1 := (((Below.refl _ w).alloc (Nat.le_refl _) _).alloc (by simp) _).trans (hf.1.mono (by simp)); have hs1 : (w.alloc (.cells #[.int .u8 x0, .int .u64 x1, .int .u64 x2, .int .u64 x3, .int .u64 x4, .slice xl xn xc] 39)).heap.size ≤ w1.heap.size := Nat.le_trans (by simp) hf.1.size; have HP := Lib.hid hp
  cases q with
  | true =>
    (have hne : T ≠ [] := by have := HMT.out; simpa using this); have KS := Lib.hid (pg_string_some _ _ _ _ HP.out hne); clear hb hp hf HMT HP K; go_wp2_with fail; refine KS.out.mono ?_; rintro e' w2 ⟨rfl, hb2⟩; have HB := Lib.hid (hbw.trans (hb2.mono (by simp))); clear hb2; go_wp2; go_ret; exact ⟨rfl, HB.out⟩
  | false =>
    (have hT0 : T = [] := by have := HMT.out; simpa using this); subst hT0; have hb' := hb rfl; have hbk := (hb'.block (w.heap.size + 1) (by simp)).trans (blk_at _ _ (by simp)); have KS := Lib.hid (pg_string_none _ _ hbk); clear hb hp hf hb' hbk HP K; go_wp2_with fail; refine KS.out.mono ?_; rintro e' w2 ⟨rfl, hb2⟩; have HB := Lib.hid (hbw.trans (hb2.mono hbw.size)); clear hb2; go_wp2; go_ret; exact ⟨rfl, HB.out⟩
open Go.RowKit
theorem hex_fin : ∀ n : Fin 256, hexErr ⟨#[48, UInt8.ofNat n.1]⟩ = (match hexV (UInt8.ofNat n.1) with | some _ => 0 | none => 2) ∧ hexBytes ⟨#[48, UInt8.ofNat n.1]⟩ = (match hexV (UInt8.ofNat n.1) with | some x => [UInt8.ofNat x] | none => []) := by decide +kernel
theorem hex_yes {c : UInt8} {x : Nat} (h : hexV c = some x) : hexErr ⟨#[48, c]⟩ = 0 ∧ hexBytes ⟨#[48, c]⟩ = [UInt8.ofNat x] := by
  have := hex_fin ⟨c.toNat, c.toNat_lt⟩; simp only [UInt8.ofNat_toNat, h] at this; exact this
theorem hex_no {c : UInt8} (h : hexV c = none) : hexErr ⟨#[48, c]⟩ = 2 ∧ hexBytes ⟨#[48, c]⟩ = [] := by
  have := hex_fin ⟨c.toNat, c.toNat_lt⟩; simp only [UInt8.ofNat_toNat, h] at this; exact this
theorem hex_none : hexErr ⟨#[48]⟩ = 2 ∧ hexBytes ⟨#[48]⟩ = [] := by decide +kernel
theorem but_trans {D : Nat} {w w1 w2 : World} (h : But D w.heap.size w w1) (k : But D w1.heap.size w1 w2) : But D w.heap.size w w2 := h.trans (k.mono h.size)
theorem RdB.noByte {w : World} {D : Nat} {s : ByteArray} {k : Nat} {vl : Value} (h : RdB w D s k vl) {off : Nat} {x : Int} (hc : w.cell? ⟨D, off, none⟩ = some (.int .u8 x)) (hv : ∀ y, vl ≠ .int .u8 y) : False := by
  unfold RdB at h; rw [Lib.cell_of_heap h] at hc
  match off, hc with
  | 0, hc => simp at hc
  | 1, hc => simp at hc
  | 2, hc => simp at hc; exact hv _ hc
  | n + 3, hc => simp at hc
def digV (l : List UInt8) : Option Nat := match l with
  | [] => none
  | c :: _ => hexV c
def hexS (l : List UInt8) : ByteArray := ⟨(48 :: l.take 1).toArray⟩
theorem digV_yes {l : List UInt8} {x : Nat} (h : digV l = some x) : hexErr (hexS l) = 0 ∧ hexBytes (hexS l) = [UInt8.ofNat x] := by
  cases l with
  | nil => cases h
  | cons c t => exact hex_yes h
theorem digV_no {l : List UInt8} (h : digV l = none) : hexErr (hexS l) = 2 ∧ hexBytes (hexS l) = [] := by
  cases l with
  | nil => exact hex_none
  | cons c t => exact hex_no h
theorem hexS_size (l : List UInt8) : (hexS l).size ≤ 2 := by
  unfold hexS; show (48 :: l.take 1).toArray.size ≤ 2
  simp; omega
theorem hexS_add (l : List UInt8) : (⟨#[48]⟩ : ByteArray) ++ frS l = hexS l := by
  apply ByteArray.ext
  unfold hexS frS; simp
theorem frS_size (l : List UInt8) : ¬ 9223372036854775807 < 1 + (frS l).size := by
  have : (frS l).size ≤ 1 := by
    unfold frS; show (l.take 1).toArray.size ≤ 1
    simp; omega
  omega
set_option maxHeartbeats 1000000 in
theorem digit_yes {w : World} {D : Nat} {s : ByteArray} {k x : Nat} {vl : Value} (h : RdB w D s k vl) (hs : s.size ≤ 1000000000) (hk : k ≤ s.size) (hv : ∀ y, vl ≠ .int .u8 y) (hx : digV (tl s k) = some x) (hx16 : x < 16) :
    Calls Tryz.prog 109 #[.pointer (some ⟨D, 0, none⟩)] w fun e w' => e = .returned (.int .u8 x) ∧ RdB w' D s (k + 1) vl ∧ But D w.heap.size w w' := by
  have KF := Lib.hid (front_any h hs hk); obtain ⟨q1, q2⟩ := digV_yes hx; have KH := Lib.hid fun W => readHex_any (hexS (tl s k)) W (by have := hexS_size (tl s k); unfold maxLen; omega) (by have := hexS_size (tl s k); omega); rw [q1, q2] at KH; have H := Lib.hid h; have hadd := hexS_add (tl s k); have hsz := frS_size (tl s k); (have wk : IntKind.i64.wrap ((k : Int) + 1) = (k : Int) + 1 := by rw [IntKind.wrap_i64]; omega); have KM := Lib.hid must_yes; clear h hx q1 q2; go_enter Tryz.func109, Tryz.ntmps109; go_wp2_with fail; refine KF.out.mono ?_; rintro e w1 ⟨rfl, hb1⟩; go_wp2_with fail; refine (KH.out _).mono ?_; rintro e w2 ⟨al, cp, rfl, hb2, hB⟩; have hb := hb1.trans (hb2.mono hb1.size); have H2 := Lib.hid (H.out.below hb); have HB := Lib.hid hb; have hbyte : (UInt8.ofNat x).toNat = x := UInt8.toNat_ofNat_of_lt' (by show x < 256; omega)
  obtain ⟨b, off, rfl, hlt, hc⟩ : ∃ b off, al = some ⟨b, off, none⟩ ∧ b < w2.heap.size ∧ w2.cell? ⟨b, off, none⟩ = some (.int .u8 x) := by
    obtain ⟨_, h | ⟨b, off, rfl, hlt, hc⟩⟩ := hB
    · simp at h
    · have := hc 0 (by simp); simp only [List.getElem_cons_zero, hbyte] at this; exact ⟨b, off, rfl, hlt, this⟩
  (have hbD : ¬ b = D := fun e => by subst e; exact H2.out.noByte hc hv); have hbD' : ¬ D = b := fun e => hbD e.symm; clear hb1 hb2 hB hb hbyte hadd hsz; go_wp2_with fail; refine (KM.out _ _).mono ?_; rintro e w3 ⟨rfl, rfl⟩; obtain ⟨c0, c1, c2⟩ := H2.out.cells; obtain ⟨f0, f1, f2⟩ := H2.out.frozen; go_wp2; go_ret; exact ⟨rfl, H2.out.go _, (But.of HB.out).set _ _⟩
set_option maxHeartbeats 1000000 in
theorem digit_no {w : World} {D : Nat} {s : ByteArray} {k : Nat} {vl : Value} (h : RdB w D s k vl) (hs : s.size ≤ 1000000000) (hk : k ≤ s.size) (hx : digV (tl s k) = none) :
    Calls Tryz.prog 109 #[.pointer (some ⟨D, 0, none⟩)] w fun e w' => e = thr k ∧ Below w.heap.size w w' := by
  have KF := Lib.hid (front_any h hs hk); obtain ⟨q1, q2⟩ := digV_no hx; have KH := Lib.hid fun W => readHex_any (hexS (tl s k)) W (by have := hexS_size (tl s k); unfold maxLen; omega) (by have := hexS_size (tl s k); omega); rw [q1, q2] at KH; have H := Lib.hid h; have hadd := hexS_add (tl s k); have hsz := frS_size (tl s k); clear h hx q1 q2; go_enter Tryz.func109, Tryz.ntmps109; go_wp2_with fail; refine KF.out.mono ?_; rintro e w1 ⟨rfl, hb1⟩; go_wp2_with fail; refine (KH.out _).mono ?_; rintro e w2 ⟨al, cp, rfl, hb2, hB⟩; have hb := hb1.trans (hb2.mono hb1.size); have KM := Lib.hid (must_no (H.out.below hb)); have HB := Lib.hid hb; clear hb1 hb2 hB hb hadd hsz; go_wp2_with fail; refine KM.out.mono ?_; rintro e w3 ⟨rfl, rfl⟩; unfold thr; go_wp2; exact ⟨rfl, rfl, HB.out⟩
theorem tl_tail (s : ByteArray) (k : Nat) : (tl s k).tail = tl s (k + 1) := by unfold tl; rw [List.tail_drop]
theorem sgn_dig0 {l : List UInt8} (h : digV l = none) : sgn (92 :: l) = .bad l := by
  cases l with
  | nil => exact sgn_92_nil
  | cons d t => exact sgn_92_no t h
theorem sgn_dig1 {l : List UInt8} {x : Nat} (h : digV l = some x) (h' : digV l.tail = none) : sgn (92 :: l) = .bad l.tail := by
  cases l with
  | nil => cases h
  | cons d t => cases t with
    | nil => exact sgn_92_one h
    | cons d' u => exact sgn_92_two u h h'
theorem sgn_dig2 {l : List UInt8} {x y : Nat} (h : digV l = some x) (h' : digV l.tail = some y) : sgn (92 :: l) = .ok (16 * x + y) l.tail.tail := by
  cases l with
  | nil => cases h
  | cons d t => cases t with
    | nil => cases h'
    | cons d' u => exact sgn_92_yes u h h'
theorem digV_lt {l : List UInt8} {x : Nat} (h : digV l = some x) : x < 16 ∧ l ≠ [] := by
  cases l with
  | nil => cases h
  | cons d t => exact ⟨hexV_lt h, by simp⟩
def SgnPost (D : Nat) (s : ByteArray) (vl : Value) (w : World) (r : SR) (e : Ending) (w' : World) : Prop := But D w.heap.size w w' ∧ match r with
  | .ok b l1 => e = .returned (.int .u8 (b : Int)) ∧ RdB w' D s (s.size - l1.length) vl
  | .bad r => e = thr (s.size - r.length)
theorem sgnPost_bad {D : Nat} {s : ByteArray} {vl : Value} {w w' : World} {k : Nat} {e : Ending} (he : e = thr k) (hb : But D w.heap.size w w') (hk : k ≤ s.size) : SgnPost D s vl w (.bad (tl s k)) e w' := by
  refine ⟨hb, ?_⟩; show e = thr _; rw [he, tl_len, show s.size - (s.size - k) = k from by omega]
theorem sgnPost_ok {D : Nat} {s : ByteArray} {vl : Value} {w w' : World} {k b : Nat} {e : Ending} (he : e = .returned (.int .u8 (b : Int))) (hr : RdB w' D s k vl) (hb : But D w.heap.size w w') (hk : k ≤ s.size) : SgnPost D s vl w (.ok b (tl s k)) e w' := by
  refine ⟨hb, he, ?_⟩; rw [tl_len, show s.size - (s.size - k) = k from by omega]; exact hr
def OneB (f : ByteArray) (c : UInt8) : Prop := f = ⟨#[c]⟩
theorem frS_one (c : UInt8) (t : List UInt8) : OneB (frS (c :: t)) c := rfl
theorem OneB.list {f : ByteArray} {c : UInt8} (h : OneB f c) : f.toList = [c] := by
  rw [h, Go.ByteArray.toList_eq]
theorem OneB.size {f : ByteArray} {c : UInt8} (h : OneB f c) : 0 < f.size ∧ f.size = 1 := by
  rw [h]; exact ⟨Nat.zero_lt_one, rfl⟩
theorem OneB.get {f : ByteArray} {c : UInt8} (h : OneB f c) (hs : 0 < f.size) : f[0] = c := by
  unfold OneB at h; subst h
  rfl
theorem own1_fin : ∀ n : Fin 256, (signL n.1 == [UInt8.ofNat n.1]) = ownB (UInt8.ofNat n.1) := by decide +kernel
theorem sign_own1 (c : UInt8) : (signL c.toNat == [c]) = ownB c := by
  have := own1_fin ⟨c.toNat, c.toNat_lt⟩
  simpa using this
set_option maxHeartbeats 2000000 in
theorem rsign_end {w : World} {D : Nat} {s : ByteArray} {k : Nat} {vl : Value} (h : RdB w D s k vl) (hs : s.size ≤ 1000000000) (hk : k = s.size) :
    Calls Tryz.prog 84 #[.pointer (some ⟨D, 0, none⟩)] w (SgnPost D s vl w (sgn (tl s k))) := by
  have KF := Lib.hid (front_any h hs (by omega)); have hz : tl s k = [] := tl_nil s k (by omega); (have hsg : sgn (tl s k) = .bad (tl s k) := by rw [hz]; rfl); rw [hsg]; rw [hz] at KF; (have d1 : (frS []).toList = [] := by rw [Go.ByteArray.toList_eq]; rfl); have H := Lib.hid h; generalize frS [] = f at *; (have d2 : (f.toList == [92]) = false := by rw [d1]; rfl); clear h hz hsg; go_enter Tryz.func84, Tryz.ntmps84; go_wp2_with fail; refine KF.out.mono ?_; rintro e w1 ⟨rfl, hb1⟩; have KM := Lib.hid (must_no (H.out.below hb1)); go_wp2_with fail; refine KM.out.mono ?_; rintro e w3 ⟨rfl, rfl⟩; unfold thr; go_wp2; exact ⟨rfl, sgnPost_bad rfl (But.of hb1) (by omega)⟩
set_option maxHeartbeats 2000000 in
theorem rsign_own {w : World} {D : Nat} {s : ByteArray} {k : Nat} {vl : Value} (h : RdB w D s k vl) (hs : s.size ≤ 1000000000) (hk : k < s.size) (h92 : s[k] ≠ 92) :
    Calls Tryz.prog 84 #[.pointer (some ⟨D, 0, none⟩)] w (SgnPost D s vl w (sgn (tl s k))) := by
  have KF := Lib.hid (front_any h hs (by omega)); have hz := tl_cons s k hk; rw [hz] at KF; have h1 := frS_one s[k] (tl s (k + 1)); (have hsg : sgn (tl s k) = if ownB s[k] = true then .ok s[k].toNat (tl s (k + 1)) else .bad (tl s k) := by rw [hz]; exact sgn_own _ _ h92); rw [hsg]; have H := Lib.hid h; generalize frS (s[k] :: tl s (k + 1)) = f at *; have hn := s[k].toNat_lt; have HC := Lib.hid h1.list; (have d1 : (f.toList == [92]) = false := by rw [HC.out]; simp; exact h92); (have d2 : f.toList.isEmpty = false := by rw [HC.out]; rfl); have d3 := h1.size.1; (have d4 : f[0].toNat = s[k].toNat := by rw [h1.get d3]); (have d5 : ¬ f.toList = [] := by rw [HC.out]; simp); have KS := Lib.hid fun W => sign_any s[k].toNat W hn; (have wk : IntKind.i64.wrap ((k : Int) + 1) = (k : Int) + 1 := by rw [IntKind.wrap_i64]; omega); clear h hz hsg h92
  cases ho : ownB s[k] with
  | true =>
    rw [if_pos rfl]; have HO := Lib.hid ho; clear ho; go_enter Tryz.func84, Tryz.ntmps84; go_wp2_with fail; refine KF.out.mono ?_; rintro e w1 ⟨rfl, hb1⟩; go_wp2_with fail; refine (KS.out _).mono ?_; rintro e w2 ⟨rfl, hb2⟩; have hb := hb1.trans (hb2.mono hb1.size); have HB := Lib.hid hb; have H2 := Lib.hid (H.out.below hb); (have d6 : (signL s[k].toNat == f.toList) = true := by rw [HC.out, sign_own1, HO.out]); have KM := Lib.hid must_yes; clear h1 hb hb1 hb2; go_wp2_with fail; refine (KM.out _ _).mono ?_; rintro e w3 ⟨rfl, rfl⟩; obtain ⟨c0, c1, c2⟩ := H2.out.cells; obtain ⟨f0, f1, f2⟩ := H2.out.frozen; go_wp2; go_ret; exact sgnPost_ok rfl (H2.out.go (k + 1)) ((But.of HB.out).set _ _) (by omega)
  | false =>
    rw [if_neg (by simp)]; have HO := Lib.hid ho; clear ho; go_enter Tryz.func84, Tryz.ntmps84; go_wp2_with fail; refine KF.out.mono ?_; rintro e w1 ⟨rfl, hb1⟩; go_wp2_with fail; refine (KS.out _).mono ?_; rintro e w2 ⟨rfl, hb2⟩; have hb := hb1.trans (hb2.mono hb1.size); have HB := Lib.hid hb; have H2 := Lib.hid (H.out.below hb); (have d6 : (signL s[k].toNat == f.toList) = false := by rw [HC.out, sign_own1, HO.out]); have KM := Lib.hid (must_no H2.out); clear h1 hb hb1 hb2; go_wp2_with fail; refine KM.out.mono ?_; rintro e w3 ⟨rfl, rfl⟩; unfold thr; go_wp2; exact ⟨rfl, sgnPost_bad rfl (But.of HB.out) (by omega)⟩
set_option maxHeartbeats 2000000 in
theorem rsign_hex {w : World} {D : Nat} {s : ByteArray} {k : Nat} {vl : Value} (h : RdB w D s k vl) (hs : s.size ≤ 1000000000) (hk : k < s.size) (hv : ∀ y, vl ≠ .int .u8 y) (h92 : s[k] = 92) :
    Calls Tryz.prog 84 #[.pointer (some ⟨D, 0, none⟩)] w (SgnPost D s vl w (sgn (tl s k))) := by
  have KF := Lib.hid (front_any h hs (by omega)); have hz := tl_cons s k hk; rw [hz, h92] at KF; rw [hz, h92]; have h1 := frS_one 92 (tl s (k + 1)); have H := Lib.hid h; generalize frS (92 :: tl s (k + 1)) = f at *; (have d1 : (f.toList == [92]) = true := by rw [h1.list]; rfl); (have wk : IntKind.i64.wrap ((k : Int) + 1) = (k : Int) + 1 := by rw [IntKind.wrap_i64]; omega); have ht := tl_tail s (k + 1); clear h hz h92 h1
  cases hx : digV (tl s (k + 1)) with
  | none =>
    rw [sgn_dig0 hx]; have HX := Lib.hid hx; clear hx ht; go_enter Tryz.func84, Tryz.ntmps84; go_wp2_with fail; refine KF.out.mono ?_; rintro e w1 ⟨rfl, hb1⟩; have H1 := Lib.hid (H.out.below hb1); obtain ⟨c0, c1, c2⟩ := H1.out.cells; obtain ⟨f0, f1, f2⟩ := H1.out.frozen; have KD := Lib.hid (digit_no (H1.out.go (k + 1)) hs (by omega) HX.out); go_wp2_with fail; refine KD.out.mono ?_; rintro e w2 ⟨rfl, hb2⟩; unfold thr; go_wp2; exact ⟨rfl, sgnPost_bad rfl (but_trans ((But.of hb1).set _ _) (But.of hb2)) (by omega)⟩
  | some x =>
    obtain ⟨hx16, hne⟩ := digV_lt hx
    have hk2 : k + 1 < s.size := by
      rcases Nat.lt_or_ge (k + 1) s.size with h | h
      · exact h
      · exact absurd (tl_nil s _ h) hne
    cases hy : digV (tl s (k + 2)) with
    | none =>
      rw [sgn_dig1 hx (by rw [ht]; exact hy), ht]; have HX := Lib.hid hx; have HY := Lib.hid hy; clear hx ht hy hne; go_enter Tryz.func84, Tryz.ntmps84; go_wp2_with fail; refine KF.out.mono ?_; rintro e w1 ⟨rfl, hb1⟩; have H1 := Lib.hid (H.out.below hb1); obtain ⟨c0, c1, c2⟩ := H1.out.cells; obtain ⟨f0, f1, f2⟩ := H1.out.frozen; have KD := Lib.hid (digit_yes (H1.out.go (k + 1)) hs (by omega) hv HX.out hx16); have BT := Lib.hid ((But.of hb1).set (g := D) 1 (.int .i64 ((k + 1 : Nat) : Int))); clear hb1; go_wp2_with fail; refine KD.out.mono ?_; rintro e w2 ⟨rfl, hr2, hb2⟩; have KE := Lib.hid (digit_no hr2 hs (by omega) HY.out); have BT2 := Lib.hid (but_trans BT.out hb2); clear hr2 hb2 c0 c1 c2 f0 f1 f2; go_wp2_with fail; refine KE.out.mono ?_; rintro e w3 ⟨rfl, hb3⟩; unfold thr; go_wp2; exact ⟨rfl, sgnPost_bad rfl (but_trans BT2.out (But.of hb3)) (by omega)⟩
    | some y =>
      obtain ⟨hy16, hne2⟩ := digV_lt hy
      have hk3 : k + 2 < s.size := by
        rcases Nat.lt_or_ge (k + 2) s.size with h | h
        · exact h
        · exact absurd (tl_nil s _ h) hne2
      rw [sgn_dig2 hx (by rw [ht]; exact hy), ht, tl_tail]; (have w16 : IntKind.u8.wrap (16 * (x : Int)) = 16 * (x : Int) := by rw [IntKind.wrap_u8]; omega); (have w17 : IntKind.u8.wrap (16 * (x : Int) + (y : Int)) = ((16 * x + y : Nat) : Int) := by rw [IntKind.wrap_u8]; omega); have HX := Lib.hid hx; have HY := Lib.hid hy; clear hx ht hy hne hne2; go_enter Tryz.func84, Tryz.ntmps84; go_wp2_with fail; refine KF.out.mono ?_; rintro e w1 ⟨rfl, hb1⟩; have H1 := Lib.hid (H.out.below hb1); obtain ⟨c0, c1, c2⟩ := H1.out.cells; obtain ⟨f0, f1, f2⟩ := H1.out.frozen; have KD := Lib.hid (digit_yes (H1.out.go (k + 1)) hs (by omega) hv HX.out hx16); have BT := Lib.hid ((But.of hb1).set (g := D) 1 (.int .i64 ((k + 1 : Nat) : Int))); clear hb1; go_wp2_with fail; refine KD.out.mono ?_; rintro e w2 ⟨rfl, hr2, hb2⟩; have KE := Lib.hid (digit_yes hr2 hs (by omega) hv HY.out hy16); have BT2 := Lib.hid (but_trans BT.out hb2); clear hr2 hb2 c0 c1 c2 f0 f1 f2; go_wp2_with fail; refine KE.out.mono ?_; rintro e w3 ⟨rfl, hr3, hb3⟩; have HR3 := Lib.hid hr3; have BT3 := Lib.hid (but_trans BT2.out hb3); clear hr3 hb3; go_wp2; go_ret; exact sgnPost_ok (by simp) HR3.out BT3.out (by omega)
theorem rsign_any {w : World} {D : Nat} {s : ByteArray} {k : Nat} {vl : Value} (h : RdB w D s k vl) (hs : s.size ≤ 1000000000) (hk : k ≤ s.size) (hv : ∀ y, vl ≠ .int .u8 y) :
    Calls Tryz.prog 84 #[.pointer (some ⟨D, 0, none⟩)] w (SgnPost D s vl w (sgn (tl s k))) := by
  by_cases hlt : k < s.size
  · by_cases h92 : s[k] = 92
    · exact rsign_hex h hs hlt hv h92
    · exact rsign_own h hs hlt h92
  · exact rsign_end h hs (by omega)
open Go.RowKit
theorem lpos {s : ByteArray} {i : Nat} {l : List UInt8} (h : l <:+ tl s i) : ∃ k, k ≤ s.size ∧ s.size - l.length = k ∧ l = tl s k ∧ l.length = s.size - k := by
  obtain ⟨h1, h2⟩ := tl_suffix h; exact ⟨s.size - l.length, by omega, rfl, h1, by omega⟩
theorem pcons {s : ByteArray} {i : Nat} {c : UInt8} {t : List UInt8} (h : tl s i = c :: t) : i < s.size ∧ tl s (i + 1) = t ∧ ∃ hi : i < s.size, s[i] = c := by
  have hi : i < s.size := by
    rcases Nat.lt_or_ge i s.size with h' | h'
    · exact h'
    · rw [tl_nil s i h'] at h; cases h
  rw [tl_cons s i hi] at h
  cases h
  exact ⟨hi, rfl, hi, rfl⟩
inductive IR where
  | ok (s : Ws) (l : List UInt8)
  | bad (l : List UInt8)
def itemR (l : List UInt8) : IR := match sgn l with
  | .bad r => .bad r
  | .ok b l1 => match l1 with
    | [] => .ok (rngW b b) []
    | c :: l2 => if c = 45 then (match sgn l2 with
      | .bad r => .bad r
      | .ok b' l3 => if b' < b then .bad l2 else .ok (rngW b b') l3) else .ok (rngW b b) (c :: l2)
theorem item_bad1 {l r : List UInt8} (h : sgn l = .bad r) : itemR l = .bad r := by unfold itemR; rw [h]
theorem item_one {l l1 : List UInt8} {b : Nat} (h : sgn l = .ok b l1) (hn : NotAt 45 l1) : itemR l = .ok (rngW b b) l1 := by
  unfold itemR; rw [h]
  cases l1 with
  | nil => rfl
  | cons c t =>
    have : ¬ c = 45 := fun e => hn t (by rw [e]); simp only [if_neg this]
theorem item_bad2 {l l2 r : List UInt8} {b : Nat} (h : sgn l = .ok b (45 :: l2)) (h2 : sgn l2 = .bad r) : itemR l = .bad r := by
  unfold itemR; rw [h]; simp only [if_true, h2]
theorem item_less {l l2 l3 : List UInt8} {b b' : Nat} (h : sgn l = .ok b (45 :: l2)) (h2 : sgn l2 = .ok b' l3) (hl : b' < b) : itemR l = .bad l2 := by
  unfold itemR; rw [h]; simp only [if_true, h2, if_pos hl]
theorem item_range {l l2 l3 : List UInt8} {b b' : Nat} (h : sgn l = .ok b (45 :: l2)) (h2 : sgn l2 = .ok b' l3) (hl : b ≤ b') : itemR l = .ok (rngW b b') l3 := by
  (have : ¬ b' < b := by omega); unfold itemR; rw [h]; simp only [if_true, h2, if_neg this]
def ItemPost (D : Nat) (s : ByteArray) (vl : Value) (w : World) (r : IR) (e : Ending) (w' : World) : Prop := But D w.heap.size w w' ∧ match r with
  | .ok q l1 => e = .returned q.v ∧ RdB w' D s (s.size - l1.length) vl
  | .bad r => e = thr (s.size - r.length)
theorem item_done {D : Nat} {s : ByteArray} {vl : Value} {w w3 : World} {q : Ws} {l1 : List UInt8} {k1 g : Nat} {e : Ending} {v0 v1 v2 v3 : Value} (hp : s.size - l1.length = k1) (hg : D < g) (hb : But D w.heap.size w w3) (hr : RdB w3 D s k1 vl) (he : e = .returned q.v) (hge : w.heap.size ≤ g) :
    ItemPost D s vl w (.ok q l1) e ((((w3.setCell ⟨g, 0, none⟩ v0).setCell ⟨g, 1, none⟩ v1).setCell ⟨g, 2, none⟩ v2).setCell ⟨g, 3, none⟩ v3) := by
  have hk : ∀ b, b ≠ g → ((((w3.setCell ⟨g, 0, none⟩ v0).setCell ⟨g, 1, none⟩ v1).setCell ⟨g, 2, none⟩ v2).setCell ⟨g, 3, none⟩ v3).heap[b]? = w3.heap[b]? := fun b h => by
    rw [Below.heap_setCell _ _ _ _ h, Below.heap_setCell _ _ _ _ h, Below.heap_setCell _ _ _ _ h, Below.heap_setCell _ _ _ _ h]
  refine ⟨⟨hb.os, hb.tape, hb.output, by simpa [World.setCell] using hb.size, fun b h1 h2 => (hk b (by omega)).trans (hb.block b h1 h2)⟩, he, ?_⟩; rw [hp]; exact hr.of (hk D (by omega))
theorem ret_one (b : Nat) (hb : b < 256) : ofN (natsOf [UInt8.ofNat b]) = rngW b b := by
  have : (UInt8.ofNat b).toNat = b := UInt8.toNat_ofNat_of_lt' (by show b < 256; omega); unfold rngW natsOf; rw [show b + 1 - b = 1 from by omega]; simp [this, List.range']
set_option maxHeartbeats 2000000 in
theorem item_any {w : World} {D : Nat} {s : ByteArray} {k : Nat} {vl : Value} (h : RdB w D s k vl) (hs : s.size ≤ 1000000000) (hk : k ≤ s.size) (hv : ∀ y, vl ≠ .int .u8 y) :
    Calls Tryz.prog 108 #[.pointer (some ⟨D, 0, none⟩)] w (ItemPost D s vl w (itemR (tl s k))) := by
  have hD := h.lt; have h0 : Below w.heap.size w (w.alloc (.cells #[.int .u64 0, .int .u64 0, .int .u64 0, .int .u64 0] 37)) := (Below.refl _ w).alloc (Nat.le_refl _) _; have KS := Lib.hid (rsign_any (h.below h0) hs hk hv)
  cases hsg : sgn (tl s k) with
  | bad r =>
    rw [hsg] at KS; rw [item_bad1 hsg]; clear hsg h; go_enter Tryz.func108, Tryz.ntmps108; go_wp2_with fail; refine KS.out.mono ?_; rintro e w1 ⟨hb1, he⟩; simp only at he; subst he; unfold thr; go_wp2; exact ⟨rfl, but_trans (But.of h0) hb1, rfl⟩
  | ok b l1 =>
    rw [hsg] at KS; obtain ⟨hb256, hsuf, hll⟩ := sgn_ok hsg; obtain ⟨k1, hk1, hpos1, hl1, hln1⟩ := lpos hsuf; have hbyte : (UInt8.ofNat b).toNat = b := UInt8.toNat_ofNat_of_lt' (by show b < 256; omega); (have hwk : IntKind.i64.wrap ((k1 : Int) + 1) = (k1 : Int) + 1 := by rw [IntKind.wrap_i64]; omega); have HSG := Lib.hid hsg; have HL1 := Lib.hid hl1; have h0b : (w.alloc (.cells #[.int .u64 0, .int .u64 0, .int .u64 0, .int .u64 0] 37)).heap[w.heap.size]? = some (.cells #[.int .u64 0, .int .u64 0, .int .u64 0, .int .u64 0] 37) := blk_new w _
    rcases notAt_or 45 l1 with h45 | ⟨l2, h45⟩
    · rw [item_one hsg h45]
      have hfr : (frS l1).toList = [] ∨ ∃ c, c ≠ 45 ∧ OneB (frS l1) c := by
        cases l1 with
        | nil => left; rw [Go.ByteArray.toList_eq]; rfl
        | cons c t => exact .inr ⟨c, fun e => h45 t (by rw [e]), frS_one c t⟩
      have d1 : ((frS (tl s k1)).toList == [45]) = false := by
        rw [← hl1]
        rcases hfr with e | ⟨c, hc, e⟩
        · rw [e]; rfl
        · rw [e.list]; simp; exact hc
      clear hsg h hl1 hsuf hfr h45 h0b; go_enter Tryz.func108, Tryz.ntmps108; go_wp2_with fail; refine KS.out.mono ?_; rintro e w1 ⟨hb1, he, hr1⟩; subst he; rw [hpos1] at hr1; have KF := Lib.hid (front_any hr1 hs hk1); have HR1 := Lib.hid hr1; have BT1 := Lib.hid (but_trans (But.of h0) hb1); have hx1 : Box w1 w.heap.size Ws.nil := (hb1.block _ (by simp) (by omega)).trans (blk_new w _); have HX1 := Lib.hid hx1; clear hr1 hb1 hx1; generalize frS (tl s k1) = f at *; go_wp2_with fail; refine KF.out.mono ?_; rintro e w2 ⟨rfl, hb2⟩; have BT2 := Lib.hid (but_trans BT1.out (But.of hb2)); have HR2 := Lib.hid (HR1.out.below hb2); have HX2 := Lib.hid (HX1.out.below hb2 HX1.out.lt); have KO := Lib.hid (setOf_any (some ⟨w2.heap.size, 0, none⟩) [UInt8.ofNat b] 1 (w2.alloc (.cells #[.int .u8 (b : Int)] 5)) (one_byte w2 b hb256)); rw [ret_one b hb256] at KO; clear hb2; go_wp2_with fail; refine KO.out.mono ?_; rintro e w3 ⟨rfl, hb3⟩; have hba : Below w2.heap.size w2 w3 := ((Below.refl _ w2).alloc (Nat.le_refl _) _).trans (hb3.mono (by simp)); have BT3 := Lib.hid (but_trans BT2.out (But.of hba)); have HR3 := Lib.hid (HR2.out.below hba); have hx3 := HX2.out.below hba HX2.out.lt; clear hba hb3; obtain ⟨⟨c0, c1, c2, c3⟩, f0, f1, f2, f3⟩ := hx3.all; simp only [Ws.nil] at c0 c1 c2 c3; generalize rngW b b = q at *; obtain ⟨qa, qb, qc, qd⟩ := q; unfold Ws.v; go_wp2; exact ret_box (hx3.put4 _ _ _ _) Tryz.results108 rfl rfl (item_done hpos1 (by omega) BT3.out HR3.out rfl (Nat.le_refl _))
    · subst h45; obtain ⟨hk1', htl2, hk1'', hc45⟩ := pcons HL1.out.symm; (have hln2 : l2.length = s.size - (k1 + 1) := by rw [← htl2, tl_len]); have hfr := frS_one 45 l2; (have d1 : ((frS (tl s k1)).toList == [45]) = true := by rw [← hl1, hfr.list]; rfl)
      cases hsg2 : sgn l2 with
      | bad r =>
        rw [item_bad2 hsg hsg2]; have HSG2 := Lib.hid (show sgn (tl s (k1 + 1)) = .bad r from by rw [htl2]; exact hsg2); clear hsg hsg2 h hl1 hsuf hfr h0b htl2 hc45 hk1''; go_enter Tryz.func108, Tryz.ntmps108; go_wp2_with fail; refine KS.out.mono ?_; rintro e w1 ⟨hb1, he, hr1⟩; subst he; rw [hpos1] at hr1; have KF := Lib.hid (front_any hr1 hs hk1); have HR1 := Lib.hid hr1; have BT1 := Lib.hid (but_trans (But.of h0) hb1); clear hr1 hb1; generalize frS (tl s k1) = f at *; go_wp2_with fail; refine KF.out.mono ?_; rintro e w2 ⟨rfl, hb2⟩; have hr2 := HR1.out.below hb2; obtain ⟨c0, c1, c2⟩ := hr2.cells; obtain ⟨f0, f1, f2⟩ := hr2.frozen; have hr3 := hr2.go (k1 + 1); obtain ⟨g0, g1, g2⟩ := hr3.cells; have BT3 := Lib.hid ((but_trans BT1.out (But.of hb2)).set 1 (.int .i64 ((k1 + 1 : Nat) : Int))); have KS2 := Lib.hid (rsign_any hr3 hs (by omega) hv); rw [HSG2.out] at KS2; clear hr2 hr3 hb2; go_wp2_with fail; refine KS2.out.mono ?_; rintro e w4 ⟨hb4, he⟩; simp only at he; subst he; unfold thr; go_wp2; exact ⟨rfl, but_trans BT3.out hb4, rfl⟩
      | ok b' l3 =>
        obtain ⟨hb256', hsuf2, hll2⟩ := sgn_ok hsg2; obtain ⟨k3, hk3, hpos3, hl3, hln3⟩ := lpos (s := s) (i := k1 + 1) (by rw [htl2]; exact hsuf2); have HSG2 := Lib.hid (show sgn (tl s (k1 + 1)) = .ok b' l3 from by rw [htl2]; exact hsg2)
        by_cases hless : b' < b
        · rw [item_less hsg hsg2 hless]; (have q1 : decide ((b' : Int) < (b : Int)) = true := by simp; omega); (have q2 : decide (b' < b) = true := by simp; omega); clear hsg hsg2 h hl1 hsuf hfr h0b htl2 hc45 hk1'' hsuf2 hl3; go_enter Tryz.func108, Tryz.ntmps108; go_wp2_with fail; refine KS.out.mono ?_; rintro e w1 ⟨hb1, he, hr1⟩; subst he; rw [hpos1] at hr1; have KF := Lib.hid (front_any hr1 hs hk1); have HR1 := Lib.hid hr1; have BT1 := Lib.hid (but_trans (But.of h0) hb1); clear hr1 hb1; generalize frS (tl s k1) = f at *; go_wp2_with fail; refine KF.out.mono ?_; rintro e w2 ⟨rfl, hb2⟩; have hr2 := HR1.out.below hb2; obtain ⟨c0, c1, c2⟩ := hr2.cells; obtain ⟨f0, f1, f2⟩ := hr2.frozen; have hr3 := hr2.go (k1 + 1); obtain ⟨g0, g1, g2⟩ := hr3.cells; have BT3 := Lib.hid ((but_trans BT1.out (But.of hb2)).set 1 (.int .i64 ((k1 + 1 : Nat) : Int))); have KS2 := Lib.hid (rsign_any hr3 hs (by omega) hv); rw [HSG2.out] at KS2; clear hr2 hr3 hb2; go_wp2_with fail; refine KS2.out.mono ?_; rintro e w4 ⟨hb4, he, hr4⟩; subst he; have BT4 := Lib.hid (but_trans BT3.out hb4); clear hr4 hb4 hless; go_wp2; refine ⟨rfl, BT4.out, ?_⟩; show _ = thr (s.size - l2.length); rw [hln2, show s.size - (s.size - (k1 + 1)) = k1 + 1 from by omega]
          rfl
        · rw [item_range hsg hsg2 (by omega)]; (have q1 : decide ((b' : Int) < (b : Int)) = false := by simp; omega); (have q2 : decide (b' < b) = false := by simp; omega); have KR := Lib.hid fun W => range_any b b' W hb256 hb256'; clear hsg hsg2 h hl1 hsuf hfr h0b htl2 hc45 hk1'' hsuf2 hl3; go_enter Tryz.func108, Tryz.ntmps108; go_wp2_with fail; refine KS.out.mono ?_; rintro e w1 ⟨hb1, he, hr1⟩; subst he; rw [hpos1] at hr1; have KF := Lib.hid (front_any hr1 hs hk1); have HR1 := Lib.hid hr1; have BT1 := Lib.hid (but_trans (But.of h0) hb1); have hx1 : Box w1 w.heap.size Ws.nil := (hb1.block _ (by simp) (by omega)).trans (blk_new w _); clear hr1 hb1; generalize frS (tl s k1) = f at *; have HX1 := Lib.hid hx1; clear hx1; go_wp2_with fail; refine KF.out.mono ?_; rintro e w2 ⟨rfl, hb2⟩; have hr2 := HR1.out.below hb2; obtain ⟨c0, c1, c2⟩ := hr2.cells; obtain ⟨f0, f1, f2⟩ := hr2.frozen; have hr3 := hr2.go (k1 + 1); obtain ⟨g0, g1, g2⟩ := hr3.cells; have BT3 := Lib.hid ((but_trans BT1.out (But.of hb2)).set 1 (.int .i64 ((k1 + 1 : Nat) : Int))); have HX3 := Lib.hid ((HX1.out.below hb2 HX1.out.lt).far (p := ⟨D, 1, none⟩) (show w.heap.size ≠ D from by omega) (.int .i64 ((k1 + 1 : Nat) : Int))); have KS2 := Lib.hid (rsign_any hr3 hs (by omega) hv); rw [HSG2.out] at KS2; clear hr2 hr3 hb2; go_wp2_with fail; refine KS2.out.mono ?_; rintro e w4 ⟨hb4, he, hr4⟩; subst he; have BT4 := Lib.hid (but_trans BT3.out hb4); have HX4 := Lib.hid (show Box w4 w.heap.size Ws.nil from (hb4.block _ HX3.out.lt (by omega)).trans HX3.out); rw [hpos3] at hr4; have HR4 := Lib.hid hr4; clear hr4 hb4 hless c0 c1 c2 f0 f1 f2 g0 g1 g2; go_wp2_with fail; refine (KR.out _).mono ?_; rintro e w5 ⟨rfl, hb5⟩; have BT5 := Lib.hid (but_trans BT4.out (But.of hb5)); have HR5 := Lib.hid (HR4.out.below hb5); have hx5 := HX4.out.below hb5 HX4.out.lt; have hrg : rangeW b b' = rngW b b' := rfl; rw [hrg]; clear hb5 hrg; obtain ⟨⟨c0, c1, c2, c3⟩, f0, f1, f2, f3⟩ := hx5.all; simp only [Ws.nil] at c0 c1 c2 c3; generalize rngW b b' = q at *; obtain ⟨qa, qb, qc, qd⟩ := q; unfold Ws.v; go_wp2; exact ret_box (hx5.put4 _ _ _ _) Tryz.results108 rfl rfl (item_done hpos3 (by omega) BT5.out HR5.out rfl (Nat.le_refl _))
end Go.Proofs.YthgghaaddankoaaGreatDoor
