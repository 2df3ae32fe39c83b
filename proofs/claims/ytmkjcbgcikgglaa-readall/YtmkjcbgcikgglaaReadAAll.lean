/- Lemmas of mine, merged: ReadA, ReadB, ReadC, ReadD, ReadE, ReadF, ReadG, ReadH, ReadJ, ReadK, RdrB, RdrE, ReadX, ReadMostW, ReadRoundW. -/
import Derived.Test.YtmkjcbgcikgglaaRexEAll
import Derived.Test.YtmkjcbgcikgglaaSetJAll
import Derived.Test.YtmkjcbgcikgglaaQuietBAll
import Derived.BigQuiet
import Derived.Laws.DeepStrings4
import Derived.Deep.RegionWith
import Derived.Test.YtmkjcbgcikgglaaSetGAll
import Derived.Test.YtmkjcbgcikgglaaRexBAll
import Derived.Test.YtmkjcbgcikgglaaRexIAll
import Derived.RegionTactic
import Derived.Test.YtmkjcbgcikgglaaNumHexAAll
import Derived.Laws.MakeOwn
import Derived.Test.YtmkjcbgcikgglaaBaseAll
import Derived.Deep.RegionHeld3
/- quillref06's is, quillref01's Value; texts from a place on. -/
namespace Go.Proofs.Ytmkjcbgcikgglaa
open Go.RowKit
set_option maxHeartbeats 1000000 in
theorem is_any (s : ByteArray) (i : Nat) (c : UInt8) (w : World) :
    Calls Try.prog 23 #[.string s, .int .i64 i, .int .u8 c.toNat] w fun e w' => e = .returned (.bool (atB c (tl s i))) ∧ w' = w := by
  by_cases hlt : i < s.size
  · have q1 : (i : Int) < (s.size : Int) := by omega
    rw [tl_cons s i hlt]
    by_cases hc : s[i] = c
    · have d1 : ((s[i].toNat : Int) == (c.toNat : Int)) = true := by rw [hc]; simp
      have hr : atB c (s[i] :: tl s (i + 1)) = true := by simp [atB, hc]
      rw [hr]
      clear hr hc
      go_enter Try.func23, Try.ntmps23
      go_wp2
      go_ret
      exact ⟨rfl, rfl⟩
    · have hn : ¬ s[i].toNat = c.toNat := fun e => hc (UInt8.toNat_inj.1 e)
      have d1 : ((s[i].toNat : Int) == (c.toNat : Int)) = false := by simp; omega
      have hr : atB c (s[i] :: tl s (i + 1)) = false := by simp [atB, hc]
      rw [hr]
      clear hr hc hn
      go_enter Try.func23, Try.ntmps23
      go_wp2
      go_ret
      exact ⟨rfl, rfl⟩
  · have q1 : decide ((i : Int) < (s.size : Int)) = false := by simp; omega
    rw [tl_nil s i (by omega)]
    go_enter Try.func23, Try.ntmps23
    go_wp2
    go_ret
    exact ⟨rfl, rfl⟩
def valI (c : UInt8) : Int := match hexV c with
  | some x => x
  | none => -1
set_option maxHeartbeats 1000000 in
theorem value_any (c : UInt8) (w : World) :
    Calls Try.prog 70 #[.int .u8 c.toNat] w fun e w' => e = .returned (.int .i64 (valI c)) ∧ w' = w := by
  have h255 := c.toNat_lt
  unfold valI hexV
  generalize c.toNat = n at *
  by_cases h1 : 48 ≤ n ∧ n ≤ 57
  · rw [if_pos h1]
    obtain ⟨a1, a2⟩ := h1
    have q1 : decide ((48 : Int) ≤ (n : Int)) = true := by simp; omega
    have q2 : decide ((n : Int) ≤ 57) = true := by simp; omega
    have q3 : ((n - 48 : Nat) : Int) = (n : Int) - 48 := by omega
    go_enter Try.func70, Try.ntmps70
    go_wp2
    go_ret
    exact ⟨by simp only; rw [q3]; rfl, rfl⟩
  · rw [if_neg h1]
    by_cases h2 : 97 ≤ n ∧ n ≤ 102
    · rw [if_pos h2]
      obtain ⟨a1, a2⟩ := h2
      have q1 : decide ((48 : Int) ≤ (n : Int)) = true := by simp; omega
      have q2 : decide ((n : Int) ≤ 57) = false := by simp; omega
      have q3 : decide ((97 : Int) ≤ (n : Int)) = true := by simp; omega
      have q4 : decide ((n : Int) ≤ 102) = true := by simp; omega
      have q5 : ((n - 87 : Nat) : Int) = (n : Int) - 97 + 10 := by omega
      clear h1
      go_enter Try.func70, Try.ntmps70
      go_wp2
      go_ret
      exact ⟨by simp only; rw [q5]; rfl, rfl⟩
    · rw [if_neg h2]
      by_cases h3 : 48 ≤ n
      · have q1 : decide ((48 : Int) ≤ (n : Int)) = true := by simp; omega
        have q2 : decide ((n : Int) ≤ 57) = false := by simp; omega
        by_cases h4 : 97 ≤ n
        · have q3 : decide ((97 : Int) ≤ (n : Int)) = true := by simp; omega
          have q4 : decide ((n : Int) ≤ 102) = false := by simp; omega
          clear h1 h2
          go_enter Try.func70, Try.ntmps70
          go_wp2
          go_ret
          exact ⟨rfl, rfl⟩
        · have q3 : decide ((97 : Int) ≤ (n : Int)) = false := by simp; omega
          clear h1 h2
          go_enter Try.func70, Try.ntmps70
          go_wp2
          go_ret
          exact ⟨rfl, rfl⟩
      · have q1 : decide ((48 : Int) ≤ (n : Int)) = false := by simp; omega
        have q3 : decide ((97 : Int) ≤ (n : Int)) = false := by simp; omega
        clear h1 h2
        go_enter Try.func70, Try.ntmps70
        go_wp2
        go_ret
        exact ⟨rfl, rfl⟩
end Go.Proofs.Ytmkjcbgcikgglaa
/- quillref06's begins and sign. -/
namespace Go.Proofs.Ytmkjcbgcikgglaa
open Go.RowKit
theorem own_fin : ∀ n : Fin 256, (signL n.1 == [UInt8.ofNat n.1]) = ownB (UInt8.ofNat n.1) := by decide +kernel
theorem own_sign (c : UInt8) : (signL c.toNat == [c]) = ownB c := by
  have h := own_fin ⟨c.toNat, c.toNat_lt⟩
  simp only [UInt8.ofNat_toNat] at h
  exact h
theorem extract_one (s : ByteArray) (i : Nat) (h : i < s.size) : (s.extract i (i + 1)).toList = [s[i]] := by
  have e : s.extract i (i + 1) = ⟨#[s[i]]⟩ := by
    apply ByteArray.ext
    apply Array.ext
    · simp; omega
    · intro j h1 h2
      have : j = 0 := by simp at h2; omega
      subst this
      simp [ByteArray.getElem_eq_getElem_data]
  rw [e, ByteArray.toList_eq]
def begS : List UInt8 → Bool
  | [] => false
  | c :: _ => decide (c = 92) || ownB c
set_option maxHeartbeats 2000000 in
theorem begins_any (s : ByteArray) (i : Nat) (w : World) (hs : s.size ≤ 1000000000) :
    Calls Try.prog 41 #[.string s, .int .i64 i] w fun e w' => e = .returned (.bool (begS (tl s i))) ∧ Below w.heap.size w w' := by
  by_cases hlt : i < s.size
  · have q1 : (i : Int) < (s.size : Int) := by omega
    have d0 : decide ((i : Int) < (s.size : Int)) = true := by simp; omega
    rw [tl_cons s i hlt]
    by_cases hc : s[i] = 92
    · have d1 : ((s[i].toNat : Int) == 92) = true := by rw [hc]; rfl
      have hr : begS (s[i] :: tl s (i + 1)) = true := by simp [begS, hc]
      rw [hr]
      clear hr hc
      go_enter Try.func41, Try.ntmps41
      go_wp2_with fail
      go_quiet (fail)
      go_wp2
      go_ret
      exact ⟨rfl, below_drewN (Below.refl _ _) _⟩
    · have hn : ¬ s[i].toNat = 92 := fun e => hc (UInt8.toNat_inj.1 e)
      have d1 : ((s[i].toNat : Int) == 92) = false := by simp; omega
      have hr : begS (s[i] :: tl s (i + 1)) = ownB s[i] := by simp [begS, hc]
      rw [hr]
      clear hr hc hn
      have h255 : s[i].toNat < 256 := s[i].toNat_lt
      have KS := Lib.hid fun W => refSign_any s[i].toNat W h255
      have hne := bel_ne w
      have b1 : i ≤ s.size := by omega
      have b2 : i + 1 ≤ s.size := by omega
      have b3 : (i : Int) + 1 ≤ (s.size : Int) := by omega
      have b4 : IntKind.i64.wrap ((i : Int) + 1) = (i : Int) + 1 := by rw [IntKind.wrap_i64]; omega
      have c1 : (0 : Int) ≤ (i : Int) := by omega
      have c2 : (0 : Int) ≤ (i : Int) + 1 := by omega
      have c3 : (i : Int) ≤ (i : Int) + 1 := by omega
      have c4 : ((i : Int) + 1).toNat = i + 1 := by omega
      have EX := Lib.hid (show (signL s[i].toNat == (s.extract i (i + 1)).toList) = ownB s[i] from by rw [extract_one s i hlt]; exact own_sign _)
      go_enter Try.func41, Try.ntmps41
      go_wp2_with fail
      refine wp_region_bel (by kernel_rfl) (by kernel_rfl) ?_
      repeat (quiet_step (first | (go_at_call 55; with_reducible exact bel_of (KS.out _))))
      rw [EX.out]
      refine wpQuiet_nil ?_
      intro x hw'
      obtain ⟨⟨y, hbx⟩, hw''⟩ := hw'
      subst hw''
      go_wp2
      go_ret
      exact ⟨rfl, hbx⟩
  · have q1 : decide ((i : Int) < (s.size : Int)) = false := by simp; omega
    rw [tl_nil s i (by omega)]
    go_enter Try.func41, Try.ntmps41
    go_wp2_with fail
    go_quiet (fail)
    go_wp2
    go_ret
    exact ⟨rfl, below_drewN (Below.refl _ _) _⟩
theorem begS_sgn {l : List UInt8} (h : begS l = false) : sgn l = .bad l := by
  cases l with
  | nil => rfl
  | cons c t =>
    simp only [begS, Bool.or_eq_false_iff, decide_eq_false_iff_not] at h
    rw [sgn_own c t h.1, h.2]; rfl
/-- What sign answers: the byte and its end; or -1 and the place. -/
def signV (s : ByteArray) : SR → Value
  | .ok b l => .tuple #[.int .i64 b, .int .i64 ((s.size - l.length : Nat) : Int)]
  | .bad r => .tuple #[.int .i64 (-1), .int .i64 ((s.size - r.length : Nat) : Int)]
theorem signV_ok (s : ByteArray) (b : Nat) (l : List UInt8) : signV s (.ok b l) = .tuple #[.int .i64 b, .int .i64 ((s.size - l.length : Nat) : Int)] := rfl
theorem signV_bad (s : ByteArray) (r : List UInt8) : signV s (.bad r) = .tuple #[.int .i64 (-1), .int .i64 ((s.size - r.length : Nat) : Int)] := rfl
theorem w64 {n : Nat} (h : n ≤ 1000000000000) : wrap64 (n : Int) = n := by
  unfold wrap64; omega
theorem valI_some {c : UInt8} {x : Nat} (h : hexV c = some x) : valI c = x := by unfold valI; rw [h]
theorem valI_none {c : UInt8} (h : hexV c = none) : valI c = -1 := by unfold valI; rw [h]
/-- The loop over two digits: behind k of them. -/
def sgInv (s : ByteArray) (i : Nat) (w : World) (n k : Value) (wr : World) : Prop := wr = w ∧
  ((n = .int .i64 0 ∧ k = .int .i64 1) ∨ (∃ (h : i + 1 < s.size) (x : Nat), hexV s[i + 1] = some x ∧ n = .int .i64 x ∧ k = .int .i64 2) ∨
   (∃ (h : i + 2 < s.size) (x y : Nat), hexV s[i + 1] = some x ∧ hexV s[i + 2] = some y ∧ n = .int .i64 ((16 * x + y : Nat) : Int) ∧ k = .int .i64 3))
set_option maxHeartbeats 4000000 in
theorem refSgn_any (s : ByteArray) (i : Nat) (w : World) (hs : s.size ≤ 1000000000) (hi : i ≤ s.size) :
    Calls Try.prog 60 #[.string s, .int .i64 i] w fun e w' => e = .returned (signV s (sgn (tl s i))) ∧ Below w.heap.size w w' := by
  have KB := Lib.hid fun W => begins_any s i W hs
  by_cases hbeg : begS (tl s i) = false
  · rw [begS_sgn hbeg]
    rw [hbeg] at KB
    have hp : s.size - (tl s i).length = i := by rw [tl_len]; omega
    rw [signV_bad, hp]
    clear hbeg hp
    go_enter Try.func60, Try.ntmps60
    go_wp2_with fail
    refine (KB.out _).mono ?_
    rintro e w1 ⟨rfl, hb1⟩
    go_wp2
    go_ret2
    exact ⟨rfl, hb1⟩
  · have hbeg' : begS (tl s i) = true := by simpa using hbeg
    rw [hbeg'] at KB
    have hlt : i < s.size := by
      rcases Nat.lt_or_ge i s.size with h | h
      · exact h
      · rw [tl_nil s i h] at hbeg'; cases hbeg'
    have q1 : (i : Int) < (s.size : Int) := by omega
    rw [tl_cons s i hlt] at hbeg' ⊢
    have w1 : IntKind.i64.wrap ((i : Int) + 1) = (i : Int) + 1 := by rw [IntKind.wrap_i64]; omega
    by_cases hc : s[i] = 92
    · have d1 : ((s[i].toNat : Int) != 92) = false := by rw [hc]; rfl
      rw [hc]
      clear hbeg hbeg'
      have KV := Lib.hid value_any
      have hx := hc
      clear hc
      go_enter Try.func60, Try.ntmps60
      go_wp2_with fail
      refine (KB.out _).mono ?_
      rintro e w1 ⟨rfl, hb1⟩
      clear hx
      go_wp2_with fail
      go_loopw [6, 7] (fun n k wr => sgInv s i w1 n k wr) (fun _ k _ => 3 - (intOf k).toNat)
      case atStart => exact ⟨rfl, .inl ⟨rfl, rfl⟩⟩
      case round =>
        obtain ⟨rfl, hrel⟩ := hrel
        rcases hrel with ⟨rfl, rfl⟩ | ⟨h1, x, hx, rfl, rfl⟩ | ⟨h2, x, y, hx, hy, rfl, rfl⟩
        · by_cases h1 : i + 1 < s.size
          · have q2 : decide ((s.size : Int) ≤ (i : Int) + 1) = false := by simp; omega
            have q3 : (i : Int) + 1 < (s.size : Int) := by omega
            have ht := tl_cons s (i + 1) h1
            cases hx : hexV s[i + 1] with
            | none =>
              have hv := valI_none hx
              have hres := Lib.hid (show signV s (sgn (92 :: tl s (i + 1))) = .tuple #[.int .i64 (-1), .int .i64 ((i : Int) + 1)] from by
                rw [ht, sgn_92_no _ hx, ← ht, signV_bad, tl_len, show s.size - (s.size - (i + 1)) = i + 1 from by omega]; rfl)
              have KV1 := Lib.hid (KV.out s[i + 1] wr)
              rw [hv] at KV1
              clear hv hx ht
              go_wp2_with fail
              refine KV1.out.mono ?_
              rintro e w2 ⟨rfl, rfl⟩
              go_wp2
              go_ret2
              exact ⟨by rw [hres.out]; rfl, hb1⟩
            | some x =>
              have hv := valI_some hx
              have hxl := hexV_lt hx
              have HX := Lib.hid hx
              have KV1 := Lib.hid (KV.out s[i + 1])
              rw [hv] at KV1
              have d2 : decide ((x : Int) < 0) = false := by simp
              clear hv hx ht
              go_wp2_with fail
              refine (KV1.out _).mono ?_
              rintro e w2 ⟨rfl, rfl⟩
              go_wp2_with fail
              refine (KV1.out _).mono ?_
              rintro e w3 ⟨rfl, rfl⟩
              go_wp2
              exact ⟨⟨rfl, .inr (.inl ⟨h1, x, HX.out, rfl, rfl⟩)⟩, by simp [intOf]⟩
          · have q2 : decide ((s.size : Int) ≤ (i : Int) + 1) = true := by simp; omega
            have hres := Lib.hid (show signV s (sgn (92 :: tl s (i + 1))) = .tuple #[.int .i64 (-1), .int .i64 ((i : Int) + 1)] from by
              rw [tl_nil s (i + 1) (by omega), sgn_92_nil, signV_bad, show s.size - ([] : List UInt8).length = i + 1 from by simp; omega]; rfl)
            go_wp2
            go_ret2
            exact ⟨by rw [hres.out]; rfl, hb1⟩
        · have ht := tl_cons s (i + 1) h1
          have hxl := hexV_lt hx
          by_cases h2 : i + 2 < s.size
          · have q2 : decide ((s.size : Int) ≤ (i : Int) + 2) = false := by simp; omega
            have q3 : (i : Int) + 2 < (s.size : Int) := by omega
            have w3 : IntKind.i64.wrap ((i : Int) + 2) = (i : Int) + 2 := by rw [IntKind.wrap_i64]; omega
            have ht2 := tl_cons s (i + 2) h2
            cases hy : hexV s[i + 2] with
            | none =>
              have hv := valI_none hy
              have hres := Lib.hid (show signV s (sgn (92 :: tl s (i + 1))) = .tuple #[.int .i64 (-1), .int .i64 ((i : Int) + 2)] from by
                rw [ht, ht2, sgn_92_two _ hx hy, ← ht2, signV_bad, tl_len, show s.size - (s.size - (i + 2)) = i + 2 from by omega]; rfl)
              have KV1 := Lib.hid (KV.out s[i + 2] wr)
              rw [hv] at KV1
              clear hv hy hx ht ht2
              go_wp2_with fail
              refine KV1.out.mono ?_
              rintro e w2 ⟨rfl, rfl⟩
              go_wp2
              go_ret2
              exact ⟨by rw [hres.out]; rfl, hb1⟩
            | some y =>
              have hv := valI_some hy
              have hyl := hexV_lt hy
              have HX := Lib.hid hx
              have HY := Lib.hid hy
              have KV1 := Lib.hid (KV.out s[i + 2])
              rw [hv] at KV1
              have d2 : decide ((y : Int) < 0) = false := by simp
              have w4 : IntKind.i64.wrap (16 * (x : Int)) = 16 * (x : Int) := by rw [IntKind.wrap_i64]; omega
              have w5 : IntKind.i64.wrap (16 * (x : Int) + (y : Int)) = 16 * (x : Int) + (y : Int) := by rw [IntKind.wrap_i64]; omega
              clear hv hy hx ht ht2
              go_wp2_with fail
              refine (KV1.out _).mono ?_
              rintro e w2 ⟨rfl, rfl⟩
              go_wp2_with fail
              refine (KV1.out _).mono ?_
              rintro e w3 ⟨rfl, rfl⟩
              go_wp2
              exact ⟨⟨rfl, .inr (.inr ⟨h2, x, y, HX.out, HY.out, by go_num, rfl⟩)⟩, by simp [intOf]⟩
          · have q2 : decide ((s.size : Int) ≤ (i : Int) + 2) = true := by simp; omega
            have w3 : IntKind.i64.wrap ((i : Int) + 2) = (i : Int) + 2 := by rw [IntKind.wrap_i64]; omega
            have hres := Lib.hid (show signV s (sgn (92 :: tl s (i + 1))) = .tuple #[.int .i64 (-1), .int .i64 ((i : Int) + 2)] from by
              rw [ht, tl_nil s (i + 1 + 1) (by omega), sgn_92_one hx, signV_bad, show s.size - ([] : List UInt8).length = i + 2 from by simp; omega]; rfl)
            clear hx ht
            go_wp2
            go_ret2
            exact ⟨by rw [hres.out]; rfl, hb1⟩
        · have ht := tl_cons s (i + 1) (by omega)
          have ht2 := tl_cons s (i + 2) h2
          have w3 : IntKind.i64.wrap ((i : Int) + 3) = (i : Int) + 3 := by rw [IntKind.wrap_i64]; omega
          have hres := Lib.hid (show signV s (sgn (92 :: tl s (i + 1))) = .tuple #[.int .i64 ((16 * x + y : Nat) : Int), .int .i64 ((i : Int) + 3)] from by
            rw [ht, ht2, sgn_92_yes _ hx hy, signV_ok, tl_len, show s.size - (s.size - (i + 2 + 1)) = i + 3 from by omega]; rfl)
          generalize 16 * x + y = m at *
          clear hx hy ht ht2
          go_wp2
          go_ret2
          exact ⟨by rw [hres.out]; rfl, hb1⟩
    · have hn : ¬ s[i].toNat = 92 := fun e => hc (UInt8.toNat_inj.1 e)
      have d1 : ((s[i].toNat : Int) != 92) = true := by simp; omega
      have ho : ownB s[i] = true := by
        simp only [begS, Bool.or_eq_true, decide_eq_true_eq] at hbeg'
        rcases hbeg' with h | h
        · exact absurd h hc
        · exact h
      rw [sgn_own _ _ hc, if_pos ho]
      have hp : s.size - (tl s (i + 1)).length = i + 1 := by rw [tl_len]; omega
      rw [signV_ok, hp]
      have hp' : ((i + 1 : Nat) : Int) = (i : Int) + 1 := by omega
      rw [hp']
      have w2 : wrap64 ((s[i].toNat : Nat) : Int) = s[i].toNat := w64 (by have := s[i].toNat_lt; omega)
      clear hbeg hbeg' ho hc hn hp hp'
      go_enter Try.func60, Try.ntmps60
      go_wp2_with fail
      refine (KB.out _).mono ?_
      rintro e w1 ⟨rfl, hb1⟩
      go_wp2
      go_ret2
      exact ⟨by rw [w2]; rfl, hb1⟩
end Go.Proofs.Ytmkjcbgcikgglaa
/- quillref06's answers in memory; bad and class. -/
namespace Go.Proofs.Ytmkjcbgcikgglaa
open Go.RowKit
theorem ret_p {fn : Func} {R : Ending → World → Prop} {a : Act} {W : World} {k g : Nat} {x0 x1 x2 x3 x4 x5 x6 x7 : Value} {fz : Nat × Nat} (hB : W.heap[g]? = some (.cells #[x0, x1, x2, x3, x4, x5, x6, x7] 48 fz)) (hres : fn.results = #[.cell k 48]) (hslot : a.tmps.getD k undef = .pointer (some ⟨g, 0, none⟩)) (hd : a.defers = []) (hR : R (.returned (.agg #[x0, x1, x2, x3, x4, x5, x6, x7])) W) : bodyPost Try.prog fn R .ret a W := by
  have c0 : W.cell? ⟨g, 0, none⟩ = some x0 := by rw [Lib.cell_of_heap hB]; rfl
  have c1 : W.cell? ⟨g, 1, none⟩ = some x1 := by rw [Lib.cell_of_heap hB]; rfl
  have c2 : W.cell? ⟨g, 2, none⟩ = some x2 := by rw [Lib.cell_of_heap hB]; rfl
  have c3 : W.cell? ⟨g, 3, none⟩ = some x3 := by rw [Lib.cell_of_heap hB]; rfl
  have c4 : W.cell? ⟨g, 4, none⟩ = some x4 := by rw [Lib.cell_of_heap hB]; rfl
  have c5 : W.cell? ⟨g, 5, none⟩ = some x5 := by rw [Lib.cell_of_heap hB]; rfl
  have c6 : W.cell? ⟨g, 6, none⟩ = some x6 := by rw [Lib.cell_of_heap hB]; rfl
  have c7 : W.cell? ⟨g, 7, none⟩ = some x7 := by rw [Lib.cell_of_heap hB]; rfl
  refine bodyPost_ret (v := .agg #[x0, x1, x2, x3, x4, x5, x6, x7]) ?_ hd hR
  have hslot' : a.tmps[k]?.getD undef = .pointer (some ⟨g, 0, none⟩) := by simpa using hslot
  simp [results, hres, hslot', go_sem, c0, c1, c2, c3, c4, c5, c6, c7]
/-- A block that holds an answer. -/
def PB (w : World) (g : Nat) (x0 x1 x2 x3 x4 x5 x6 x7 : Value) : Prop := w.heap[g]? = some (.cells #[x0, x1, x2, x3, x4, x5, x6, x7] 48 (0, 0))
theorem PB.lt {w : World} {g : Nat} {x0 x1 x2 x3 x4 x5 x6 x7 : Value} (h : PB w g x0 x1 x2 x3 x4 x5 x6 x7) : g < w.heap.size := (Array.getElem?_eq_some_iff.1 h).1
theorem PB.below {w w' : World} {g B : Nat} {x0 x1 x2 x3 x4 x5 x6 x7 : Value} (h : PB w g x0 x1 x2 x3 x4 x5 x6 x7) (hb : Below B w w') (hg : g < B) : PB w' g x0 x1 x2 x3 x4 x5 x6 x7 := (hb.block g hg).trans h
theorem PB.cells {w : World} {g : Nat} {x0 x1 x2 x3 x4 x5 x6 x7 : Value} (h : PB w g x0 x1 x2 x3 x4 x5 x6 x7) : w.cell? ⟨g, 0, none⟩ = some x0 ∧ w.cell? ⟨g, 1, none⟩ = some x1 ∧ w.cell? ⟨g, 2, none⟩ = some x2 ∧ w.cell? ⟨g, 3, none⟩ = some x3 ∧ w.cell? ⟨g, 4, none⟩ = some x4 ∧ w.cell? ⟨g, 5, none⟩ = some x5 ∧ w.cell? ⟨g, 6, none⟩ = some x6 ∧ w.cell? ⟨g, 7, none⟩ = some x7 := by
  unfold PB at h
  refine ⟨?_, ?_, ?_, ?_, ?_, ?_, ?_, ?_⟩ <;> (rw [Lib.cell_of_heap h]; rfl)
theorem PB.frozen {w : World} {g : Nat} {x0 x1 x2 x3 x4 x5 x6 x7 : Value} (h : PB w g x0 x1 x2 x3 x4 x5 x6 x7) : w.frozen? ⟨g, 0, none⟩ = false ∧ w.frozen? ⟨g, 1, none⟩ = false ∧ w.frozen? ⟨g, 2, none⟩ = false ∧ w.frozen? ⟨g, 3, none⟩ = false ∧ w.frozen? ⟨g, 4, none⟩ = false ∧ w.frozen? ⟨g, 5, none⟩ = false ∧ w.frozen? ⟨g, 6, none⟩ = false ∧ w.frozen? ⟨g, 7, none⟩ = false :=
  ⟨Lib.frozen_of_heap h 0, Lib.frozen_of_heap h 1, Lib.frozen_of_heap h 2, Lib.frozen_of_heap h 3, Lib.frozen_of_heap h 4, Lib.frozen_of_heap h 5, Lib.frozen_of_heap h 6, Lib.frozen_of_heap h 7⟩
theorem PB.put {w : World} {g : Nat} {x0 x1 x2 x3 x4 x5 x6 x7 : Value} (h : PB w g x0 x1 x2 x3 x4 x5 x6 x7) (y0 y1 y2 y3 y4 y5 y6 y7 : Value) :
    PB ((((((((w.setCell ⟨g, 0, none⟩ y0).setCell ⟨g, 1, none⟩ y1).setCell ⟨g, 2, none⟩ y2).setCell ⟨g, 3, none⟩ y3).setCell ⟨g, 4, none⟩ y4).setCell ⟨g, 5, none⟩ y5).setCell ⟨g, 6, none⟩ y6).setCell ⟨g, 7, none⟩ y7) g y0 y1 y2 y3 y4 y5 y6 y7 := by
  unfold PB at h ⊢
  simp [World.setCell, Array.getElem?_modify, h]
theorem bel8 {w w' : World} {B g : Nat} (h : Below B w w') (hg : B ≤ g) (y0 y1 y2 y3 y4 y5 y6 y7 : Value) :
    Below B w ((((((((w'.setCell ⟨g, 0, none⟩ y0).setCell ⟨g, 1, none⟩ y1).setCell ⟨g, 2, none⟩ y2).setCell ⟨g, 3, none⟩ y3).setCell ⟨g, 4, none⟩ y4).setCell ⟨g, 5, none⟩ y5).setCell ⟨g, 6, none⟩ y6).setCell ⟨g, 7, none⟩ y7) :=
  (((((((h.setCell (p := ⟨g, 0, none⟩) hg _).setCell (p := ⟨g, 1, none⟩) hg _).setCell (p := ⟨g, 2, none⟩) hg _).setCell (p := ⟨g, 3, none⟩) hg _).setCell (p := ⟨g, 4, none⟩) hg _).setCell (p := ⟨g, 5, none⟩) hg _).setCell (p := ⟨g, 6, none⟩) hg _).setCell (p := ⟨g, 7, none⟩) hg _
/-- What one of quillref06's readers answers. -/
def ParsePost (s : ByteArray) (w : World) (res : PR) (e : Ending) (w' : World) : Prop := Below w.heap.size w w' ∧ ∃ (y0 y1 y2 y3 y4 : Int) (yl : Option Addr) (yn yc : Nat), match res with
  | .ok ex l => e = .returned (.agg #[.int .u8 y0, .int .u64 y1, .int .u64 y2, .int .u64 y3, .int .u64 y4, .slice yl yn yc, .int .i64 ((s.size - l.length : Nat) : Int), .bool false]) ∧ ReAt (New w.heap.size) w' (.agg #[.int .u8 y0, .int .u64 y1, .int .u64 y2, .int .u64 y3, .int .u64 y4, .slice yl yn yc]) ex.rx
  | .bad r => e = .returned (.agg #[.int .u8 y0, .int .u64 y1, .int .u64 y2, .int .u64 y3, .int .u64 y4, .slice yl yn yc, .int .i64 ((s.size - r.length : Nat) : Int), .bool true])
theorem post_ok {s : ByteArray} {w w' : World} {res : PR} {ex : Ex} {l : List UInt8} {y0 y1 y2 y3 y4 : Int} {yl : Option Addr} {yn yc : Nat} {z : Int} (hr : res = .ok ex l) (hz : z = ((s.size - l.length : Nat) : Int)) (hb : Below w.heap.size w w') (hv : ReAt (New w.heap.size) w' (.agg #[.int .u8 y0, .int .u64 y1, .int .u64 y2, .int .u64 y3, .int .u64 y4, .slice yl yn yc]) ex.rx) :
    ParsePost s w res (.returned (.agg #[.int .u8 y0, .int .u64 y1, .int .u64 y2, .int .u64 y3, .int .u64 y4, .slice yl yn yc, .int .i64 z, .bool false])) w' := by
  subst hr hz
  exact ⟨hb, y0, y1, y2, y3, y4, yl, yn, yc, rfl, hv⟩
theorem post_bad {s : ByteArray} {w w' : World} {res : PR} {r : List UInt8} {y0 y1 y2 y3 y4 : Int} {yl : Option Addr} {yn yc : Nat} {z : Int} (hr : res = .bad r) (hz : z = ((s.size - r.length : Nat) : Int)) (hb : Below w.heap.size w w') :
    ParsePost s w res (.returned (.agg #[.int .u8 y0, .int .u64 y1, .int .u64 y2, .int .u64 y3, .int .u64 y4, .slice yl yn yc, .int .i64 z, .bool true])) w' := by
  subst hr hz
  exact ⟨hb, y0, y1, y2, y3, y4, yl, yn, yc, rfl⟩
theorem ParsePost.ok {s : ByteArray} {w w' : World} {ex : Ex} {l : List UInt8} {e : Ending} (h : ParsePost s w (.ok ex l) e w') : ∃ (y0 y1 y2 y3 y4 : Int) (yl : Option Addr) (yn yc : Nat), e = .returned (.agg #[.int .u8 y0, .int .u64 y1, .int .u64 y2, .int .u64 y3, .int .u64 y4, .slice yl yn yc, .int .i64 ((s.size - l.length : Nat) : Int), .bool false]) ∧ ReAt (New w.heap.size) w' (.agg #[.int .u8 y0, .int .u64 y1, .int .u64 y2, .int .u64 y3, .int .u64 y4, .slice yl yn yc]) ex.rx ∧ Below w.heap.size w w' := by
  obtain ⟨hb, y0, y1, y2, y3, y4, yl, yn, yc, h1, h2⟩ := h
  exact ⟨y0, y1, y2, y3, y4, yl, yn, yc, h1, h2, hb⟩
theorem ParsePost.bad {s : ByteArray} {w w' : World} {r : List UInt8} {e : Ending} (h : ParsePost s w (.bad r) e w') : ∃ (y0 y1 y2 y3 y4 : Int) (yl : Option Addr) (yn yc : Nat), e = .returned (.agg #[.int .u8 y0, .int .u64 y1, .int .u64 y2, .int .u64 y3, .int .u64 y4, .slice yl yn yc, .int .i64 ((s.size - r.length : Nat) : Int), .bool true]) ∧ Below w.heap.size w w' := by
  obtain ⟨hb, y0, y1, y2, y3, y4, yl, yn, yc, h1⟩ := h
  exact ⟨y0, y1, y2, y3, y4, yl, yn, yc, h1, hb⟩
set_option maxHeartbeats 1000000 in
theorem badP_any (k : Nat) (w : World) :
    Calls Try.prog 59 #[.int .i64 k] w fun e w' => e = .returned (.agg #[.int .u8 0, .int .u64 0, .int .u64 0, .int .u64 0, .int .u64 0, .slice none 0 0, .int .i64 k, .bool true]) ∧ Below w.heap.size w w' := by
  go_enter Try.func59, Try.ntmps59
  go_wp2
  exact ret_p (blk_new w _) Try.results59 rfl rfl ⟨rfl, (Below.refl _ w).alloc (Nat.le_refl _) _⟩
end Go.Proofs.Ytmkjcbgcikgglaa
/- quillref06's class. -/
namespace Go.Proofs.Ytmkjcbgcikgglaa
open Go.RowKit
theorem ofS_rx (s : Ws) : (ofS s).rx = ofR s := by
  unfold ofS ofR
  split <;> rfl
/-- An expression whose rows lie above is kept where a block below is written. -/
theorem ReAt.put8 {B B' g : Nat} {w : World} {v : Value} {r : Rx} (h : ReAt (New B) w v r) (hg : g < B) (hB : B' ≤ B) (y0 y1 y2 y3 y4 y5 y6 y7 : Value) :
    ReAt (New B') ((((((((w.setCell ⟨g, 0, none⟩ y0).setCell ⟨g, 1, none⟩ y1).setCell ⟨g, 2, none⟩ y2).setCell ⟨g, 3, none⟩ y3).setCell ⟨g, 4, none⟩ y4).setCell ⟨g, 5, none⟩ y5).setCell ⟨g, 6, none⟩ y6).setCell ⟨g, 7, none⟩ y7) v r := by
  refine h.go ⟨by simp [World.setCell], fun b _ h2 => ⟨Nat.le_trans hB h2, ?_⟩⟩
  have hne : g ≠ b := fun e => by have : B ≤ b := h2; omega
  simp [World.setCell, Array.getElem?_modify, hne]
theorem Box.put8 {w : World} {g g' : Nat} {s : Ws} (h : Box w g s) (hg : g ≠ g') (y0 y1 y2 y3 : Value) : Box ((((w.setCell ⟨g', 0, none⟩ y0).setCell ⟨g', 1, none⟩ y1).setCell ⟨g', 2, none⟩ y2).setCell ⟨g', 3, none⟩ y3) g s :=
  (((h.far (p := ⟨g', 0, none⟩) hg _).far (p := ⟨g', 1, none⟩) hg _).far (p := ⟨g', 2, none⟩) hg _).far (p := ⟨g', 3, none⟩) hg _
theorem PB.far4 {w : World} {g g' : Nat} {x0 x1 x2 x3 x4 x5 x6 x7 : Value} (h : PB w g x0 x1 x2 x3 x4 x5 x6 x7) (hg : g' ≠ g) (y0 y1 y2 y3 : Value) : PB ((((w.setCell ⟨g', 0, none⟩ y0).setCell ⟨g', 1, none⟩ y1).setCell ⟨g', 2, none⟩ y2).setCell ⟨g', 3, none⟩ y3) g x0 x1 x2 x3 x4 x5 x6 x7 := by
  unfold PB at h ⊢
  simp [World.setCell, Array.getElem?_modify, hg, h]
/-- The block in which a reader's answer is made, before it is. -/
def PZ (w : World) (g : Nat) : Prop := PB w g (.int .u8 0) (.int .u64 0) (.int .u64 0) (.int .u64 0) (.int .u64 0) (.slice none 0 0) (.int .i64 0) (.bool false)
def clsInv (s : ByteArray) (i : Nat) (w : World) (v : Value) (wr : World) : Prop := ∃ (k : Nat) (out : Ws), v = .int .i64 k ∧ k ≤ s.size ∧ out.Ok ∧ PZ wr w.heap.size ∧ Box wr (w.heap.size + 1) out ∧ Below w.heap.size w wr ∧ ∀ res, PCls out (tl s k) res → PCls Ws.nil (tl s i) res
theorem left_pos {s : ByteArray} {i : Nat} {l : List UInt8} (h : l <:+ tl s i) (_hi : i ≤ s.size) : ∃ k, k ≤ s.size ∧ s.size - l.length = k ∧ l = tl s k ∧ l.length = s.size - k := by
  obtain ⟨h1, h2⟩ := tl_suffix h
  exact ⟨s.size - l.length, by omega, rfl, h1, by omega⟩
set_option maxHeartbeats 8000000 in
theorem class_any (s : ByteArray) (i : Nat) (w : World) (res : PR) (hs : s.size ≤ 1000000000) (hi : i ≤ s.size) (hres : PCls Ws.nil (tl s i) res) :
    Calls Try.prog 58 #[.string s, .int .i64 i] w (ParsePost s w res) := by
  have KI := Lib.hid fun (k : Nat) (c : UInt8) W => is_any s k c W
  have KS := Lib.hid fun (k : Nat) (hk : k ≤ s.size) W => refSgn_any s k W hs hk
  have KB := Lib.hid badP_any
  have KR := Lib.hid fun (lo hi : Nat) (h1 : lo < 256) (h2 : hi < 256) W => refRange_any lo hi W h1 h2
  have KJ := Lib.hid fun (a b : Ws) (h1 : a.Ok) (h2 : b.Ok) W => refJoin_any a b W h1 h2
  have KO := Lib.hid fun (a : Ws) (h1 : a.Ok) W => refOfR_any a W h1
  have HRES := Lib.hid (fun r (h : PCls Ws.nil (tl s i) r) => hres.det h)
  clear hres
  go_enter Try.func58, Try.ntmps58
  go_wp2_with fail
  go_loopw [1] (fun v wr => clsInv s i w v wr) (fun v _ => s.size - (intOf v).toNat)
  case atStart =>
    refine ⟨i, Ws.nil, rfl, hi, Ws.nil_ok, ?_, ?_, ((Below.refl _ w).alloc (Nat.le_refl _) _).alloc (by simp) _, fun _ h => h⟩
    · exact (Below.heap_alloc _ _ _ (by simp)).trans (blk_new w _)
    · exact blk_at _ _ (by simp)
  case round =>
    obtain ⟨k, out, rfl, hk, hok, hP, hX, hb, hinv⟩ := hrel
    have HP := Lib.hid hP
    have HX := Lib.hid hX
    have HI := Lib.hid hinv
    clear hP hX hinv
    have K93 := Lib.hid (show Calls Try.prog 23 #[.string s, .int .i64 k, .int .u8 93] wr fun e w' => e = .returned (.bool (atB 93 (tl s k))) ∧ w' = wr from KI.out k 93 wr)
    cases h93 : atB 93 (tl s k) with
    | true =>
      obtain ⟨t, ht⟩ := atB_yes h93
      rw [h93] at K93
      have hlen : t.length + 1 = s.size - k := by have := congrArg List.length ht; rw [tl_len] at this; simp at this; omega
      have hpos : s.size - t.length = k + 1 := by omega
      have hR := HRES.out _ (HI.out _ (by rw [ht]; exact PCls.done out t))
      have HR := Lib.hid hR
      clear hR ht h93
      obtain ⟨oa, ob, oc, od⟩ := out
      obtain ⟨⟨c0, c1, c2, c3⟩, -⟩ := HX.out.all
      simp only at c0 c1 c2 c3
      have w1 : IntKind.i64.wrap ((k : Int) + 1) = (k : Int) + 1 := by rw [IntKind.wrap_i64]; omega
      go_wp2_with fail
      refine K93.out.mono ?_
      rintro e w1 ⟨rfl, rfl⟩
      go_wp2_with fail
      refine (KO.out ⟨oa, ob, oc, od⟩ hok _).mono ?_
      rintro e w2 ⟨v, rfl, hv, hb2⟩
      obtain ⟨y0, y1, y2, y3, y4, yl, yn, yc, rfl⟩ := cells_re hv
      have hP2 := HP.out.below hb2 HP.out.lt
      obtain ⟨p0, p1, p2, p3, p4, p5, p6, p7⟩ := hP2.cells
      obtain ⟨f0, f1, f2, f3, f4, f5, f6, f7⟩ := hP2.frozen
      have HV := Lib.hid hv
      have hbw := hb.trans (hb2.mono hb.size)
      have hplt := HP.out.lt
      clear hv c0 c1 c2 c3 hb2 hb
      go_wp2
      exact ret_p (hP2.put _ _ _ _ _ _ _ _) Try.results58 rfl rfl (post_ok HR.out (by rw [hpos]; rfl) (bel8 hbw (Nat.le_refl _) _ _ _ _ _ _ _ _) (by rw [ofS_rx]; exact HV.out.put8 hplt (Nat.le_of_lt hplt) _ _ _ _ _ _ _ _))
    | false =>
      have hn93 := atB_no h93
      rw [h93] at K93
      have KS1 := Lib.hid (KS.out k hk wr)
      have hsf := sgn_fact (tl s k)
      cases hsg : sgn (tl s k) with
      | bad r =>
        rw [hsg] at KS1 hsf
        obtain ⟨k1, hk1, hpos, _, _⟩ := left_pos hsf hk
        have HR := Lib.hid (HRES.out _ (HI.out _ (PCls.bad1 hn93 hsg)))
        rw [signV_bad, hpos] at KS1
        have d0 : decide ((-1 : Int) < 0) = true := rfl
        have hP := HP.out
        clear hn93 h93 hsf hsg
        go_wp2_with fail
        refine K93.out.mono ?_
        rintro e w1 ⟨rfl, rfl⟩
        go_wp2_with fail
        refine KS1.out.mono ?_
        rintro e w2 ⟨rfl, hb2⟩
        replace hb := hb.trans (hb2.mono hb.size)
        replace hP := hP.below hb2 hP.lt
        clear hb2
        go_wp2_with fail
        refine (KB.out k1 _).mono ?_
        rintro e w4 ⟨rfl, hb4⟩
        have hbw := hb.trans (hb4.mono hb.size)
        have hP4 := hP.below hb4 hP.lt
        obtain ⟨p0, p1, p2, p3, p4, p5, p6, p7⟩ := hP4.cells
        obtain ⟨f0, f1, f2, f3, f4, f5, f6, f7⟩ := hP4.frozen
        clear hb4 hb hP
        go_wp2
        exact ret_p (hP4.put _ _ _ _ _ _ _ _) Try.results58 rfl rfl (post_bad HR.out (by rw [hpos]) (bel8 hbw (Nat.le_refl _) _ _ _ _ _ _ _ _))
      | ok b l1 =>
        rw [hsg] at KS1 hsf
        obtain ⟨hb256, hsuf, hlt1⟩ := hsf
        obtain ⟨k1, hk1, hpos1, hl1, hln1⟩ := left_pos hsuf hk
        rw [tl_len] at hlt1
        rw [signV_ok, hpos1] at KS1
        have d0 : decide ((b : Int) < 0) = false := by simp
        have K45 := Lib.hid (fun W => show Calls Try.prog 23 #[.string s, .int .i64 k1, .int .u8 45] W fun e w' => e = .returned (.bool (atB 45 (tl s k1))) ∧ w' = W from KI.out k1 45 W)
        have hP := HP.out
        have hX := HX.out
        clear HP HX
        cases h45 : atB 45 (tl s k1) with
        | false =>
          rw [h45] at K45
          have hn45 := atB_no h45
          have HD := Lib.hid (show ∀ (o : Ws) r, PCls (o.join (rngW b b)) (tl s k1) r → PCls o (tl s k) r from fun o r h => PCls.one hn93 hsg (by rw [hl1]; exact hn45) (by rw [hl1]; exact h))
          clear hn93 h93 hsg hsuf hl1 hn45 h45
          go_wp2_with fail
          refine K93.out.mono ?_
          rintro e w1 ⟨rfl, rfl⟩
          go_wp2_with fail
          refine KS1.out.mono ?_
          rintro e w2 ⟨rfl, hb2⟩
          replace hb := hb.trans (hb2.mono hb.size)
          replace hP := hP.below hb2 hP.lt
          replace hX := hX.below hb2 hX.lt
          clear hb2
          go_wp2_with fail
          refine (K45.out _).mono ?_
          rintro e w3 ⟨rfl, rfl⟩
          obtain ⟨oa, ob, oc, od⟩ := out
          obtain ⟨⟨c0, c1, c2, c3⟩, f0, f1, f2, f3⟩ := hX.all
          simp only at c0 c1 c2 c3
          have KR1 := Lib.hid (KR.out b b (by omega) (by omega))
          have hrk : (rangeW b b).Ok := ofN_ok _
          have hrw : rangeW b b = rngW b b := rfl
          have KJ1 := Lib.hid (KJ.out ⟨oa, ob, oc, od⟩ (rangeW b b) hok hrk)
          have hjk : ((⟨oa, ob, oc, od⟩ : Ws).join (rangeW b b)).Ok := Ws.join_ok hok hrk
          have HN := Lib.hid (fun r (h : PCls ((⟨oa, ob, oc, od⟩ : Ws).join (rangeW b b)) (tl s k1) r) => HI.out r (HD.out _ r h))
          have hXl := hX.lt
          have hPl := hP.lt
          have HXX := Lib.hid hX
          have HPP := Lib.hid hP
          generalize hrg : rangeW b b = rg at *
          obtain ⟨ra, rb, rc, rd⟩ := rg
          generalize hjg : (⟨oa, ob, oc, od⟩ : Ws).join ⟨ra, rb, rc, rd⟩ = jg at *
          obtain ⟨ja, jb, jc, jd⟩ := jg
          unfold Ws.v at KR1 KJ1
          simp only at KR1 KJ1
          clear hrg hjg hrw hX hP
          go_wp2_with fail
          go_region_with (first
            | (go_at_call 57; (with_reducible refine (KR1.out _).mono ?_); (rintro e wa ⟨rfl, hba⟩); (obtain ⟨⟨c0', c1', c2', c3'⟩, -⟩ := ((HXX.out.drewN 1).below hba hXl).all); (simp only at c0' c1' c2' c3'))
            | (go_at_call 69; (with_reducible refine (KJ1.out _).mono ?_); (rintro e wb ⟨rfl, hbb⟩); (have hXb := ((HXX.out.drewN 1).below hba hXl).below hbb (Nat.lt_of_lt_of_le hXl hba.size)); (obtain ⟨⟨d0, d1, d2, d3⟩, g0, g1, g2, g3⟩ := hXb.all); (simp only at d0 d1 d2 d3))
            | fail)
          all_goals
            go_wp2
            have hbx : Below w.heap.size w wb := (hb.drew.trans (hba.mono hb.drew.size)).trans (hbb.mono (Nat.le_trans hb.drew.size hba.size))
            have hPb := (HPP.out.below (Below.refl _ _).drew hPl |>.below hba hPl).below hbb (Nat.lt_of_lt_of_le hPl hba.size)
            exact ⟨⟨k1, ⟨ja, jb, jc, jd⟩, by go_num, by omega, hjk, hPb.far4 (by omega) _ _ _ _, hXb.put4 _ _ _ _, below_put hbx (by omega) _ _ _ _, HN.out⟩, by simp [intOf]; omega⟩
        | true =>
          rw [h45] at K45
          obtain ⟨l2, hl2⟩ := atB_yes h45
          have hk2 : k1 + 1 ≤ s.size := by
            have := congrArg List.length hl2
            rw [tl_len] at this
            simp only [List.length_cons] at this; omega
          have htl : tl s (k1 + 1) = l2 := by
            have h1 : k1 < s.size := by omega
            rw [tl_cons s k1 h1] at hl2
            simp only [List.cons.injEq] at hl2
            exact hl2.2
          have hsg1 : sgn (tl s k) = .ok b (45 :: l2) := by rw [hsg, hl1, hl2]
          have wk : IntKind.i64.wrap ((k1 : Int) + 1) = (k1 : Int) + 1 := by rw [IntKind.wrap_i64]; omega
          have KS2 := Lib.hid (fun W => show Calls Try.prog 60 #[.string s, .int .i64 ((k1 : Int) + 1)] W fun e w' => e = .returned (signV s (sgn (tl s (k1 + 1)))) ∧ Below W.heap.size W w' from KS.out (k1 + 1) hk2 W)
          have hsf2 := sgn_fact (tl s (k1 + 1))
          cases hsg2 : sgn (tl s (k1 + 1)) with
          | bad r =>
            rw [hsg2] at KS2 hsf2
            obtain ⟨k3, hk3, hpos, _, _⟩ := left_pos hsf2 hk2
            have HR := Lib.hid (HRES.out _ (HI.out _ (PCls.bad2 hn93 hsg1 (by rw [← htl]; exact hsg2))))
            rw [signV_bad, hpos] at KS2
            have d2 : decide ((-1 : Int) < 0) = true := rfl
            clear hn93 h93 hsg hsg1 hsg2 hsuf hl1 hl2 htl h45 hsf2
            go_wp2_with fail
            refine K93.out.mono ?_
            rintro e w1 ⟨rfl, rfl⟩
            go_wp2_with fail
            refine KS1.out.mono ?_
            rintro e w2 ⟨rfl, hb2⟩
            replace hb := hb.trans (hb2.mono hb.size)
            replace hP := hP.below hb2 hP.lt
            replace hX := hX.below hb2 hX.lt
            clear hb2
            go_wp2_with fail
            refine (K45.out _).mono ?_
            rintro e w3 ⟨rfl, rfl⟩
            go_wp2_with fail
            refine (KS2.out _).mono ?_
            rintro e w5 ⟨rfl, hb5⟩
            replace hb := hb.trans (hb5.mono hb.size)
            replace hP := hP.below hb5 hP.lt
            replace hX := hX.below hb5 hX.lt
            clear hb5
            go_wp2_with fail
            refine (KB.out k3 _).mono ?_
            rintro e w4 ⟨rfl, hb4⟩
            have hbw := hb.trans (hb4.mono hb.size)
            have hP4 := hP.below hb4 hP.lt
            obtain ⟨p0, p1, p2, p3, p4, p5, p6, p7⟩ := hP4.cells
            obtain ⟨f0, f1, f2, f3, f4, f5, f6, f7⟩ := hP4.frozen
            clear hb4 hb hP
            go_wp2
            exact ret_p (hP4.put _ _ _ _ _ _ _ _) Try.results58 rfl rfl (post_bad HR.out (by rw [hpos]) (bel8 hbw (Nat.le_refl _) _ _ _ _ _ _ _ _))
          | ok b' l3 =>
            rw [hsg2] at KS2 hsf2
            obtain ⟨hb256', hsuf3, hlt3⟩ := hsf2
            obtain ⟨k3, hk3, hpos3, hl3, hln3⟩ := left_pos hsuf3 hk2
            rw [tl_len] at hlt3
            rw [signV_ok, hpos3] at KS2
            have d2 : decide ((b' : Int) < 0) = false := by simp
            by_cases hless : b' < b
            · have d3 : decide ((b' : Int) < (b : Int)) = true := by simp; omega
              have HR := Lib.hid (HRES.out _ (HI.out _ (PCls.less hn93 hsg1 (by rw [← htl]; exact hsg2) hless)))
              have hpos : s.size - l2.length = k1 + 1 := by rw [← htl, tl_len]; omega
              have KB1 := Lib.hid (fun W => show Calls Try.prog 59 #[.int .i64 ((k1 : Int) + 1)] W fun e w' => e = .returned (.agg #[.int .u8 0, .int .u64 0, .int .u64 0, .int .u64 0, .int .u64 0, .slice none 0 0, .int .i64 ((k1 : Int) + 1), .bool true]) ∧ Below W.heap.size W w' from KB.out (k1 + 1) W)
              clear hn93 h93 hsg hsg1 hsg2 hsuf hl1 hl2 htl h45 hsuf3 hl3
              go_wp2_with fail
              refine K93.out.mono ?_
              rintro e w1 ⟨rfl, rfl⟩
              go_wp2_with fail
              refine KS1.out.mono ?_
              rintro e w2 ⟨rfl, hb2⟩
              replace hb := hb.trans (hb2.mono hb.size)
              replace hP := hP.below hb2 hP.lt
              replace hX := hX.below hb2 hX.lt
              clear hb2
              go_wp2_with fail
              refine (K45.out _).mono ?_
              rintro e w3 ⟨rfl, rfl⟩
              go_wp2_with fail
              refine (KS2.out _).mono ?_
              rintro e w5 ⟨rfl, hb5⟩
              replace hb := hb.trans (hb5.mono hb.size)
              replace hP := hP.below hb5 hP.lt
              replace hX := hX.below hb5 hX.lt
              clear hb5
              go_wp2_with fail
              refine (KB1.out _).mono ?_
              rintro e w4 ⟨rfl, hb4⟩
              have hbw := hb.trans (hb4.mono hb.size)
              have hP4 := hP.below hb4 hP.lt
              obtain ⟨p0, p1, p2, p3, p4, p5, p6, p7⟩ := hP4.cells
              obtain ⟨f0, f1, f2, f3, f4, f5, f6, f7⟩ := hP4.frozen
              clear hb4 hb hP
              go_wp2
              exact ret_p (hP4.put _ _ _ _ _ _ _ _) Try.results58 rfl rfl (post_bad HR.out (by rw [hpos]; rfl) (bel8 hbw (Nat.le_refl _) _ _ _ _ _ _ _ _))
            · have d3 : decide ((b' : Int) < (b : Int)) = false := by simp; omega
              have d4 : decide (b' < b) = false := by simp; omega
              have HD := Lib.hid (show ∀ (o : Ws) r, PCls (o.join (rngW b b')) (tl s k3) r → PCls o (tl s k) r from fun o r h => PCls.range hn93 hsg1 (by rw [← htl]; exact hsg2) (by omega) (by rw [hl3]; exact h))
              clear hn93 h93 hsg hsg1 hsg2 hsuf hl1 hl2 htl h45 hsuf3 hl3 hless
              go_wp2_with fail
              refine K93.out.mono ?_
              rintro e w1 ⟨rfl, rfl⟩
              go_wp2_with fail
              refine KS1.out.mono ?_
              rintro e w2 ⟨rfl, hb2⟩
              replace hb := hb.trans (hb2.mono hb.size)
              replace hP := hP.below hb2 hP.lt
              replace hX := hX.below hb2 hX.lt
              clear hb2
              go_wp2_with fail
              refine (K45.out _).mono ?_
              rintro e w3 ⟨rfl, rfl⟩
              go_wp2_with fail
              refine (KS2.out _).mono ?_
              rintro e w5 ⟨rfl, hb5⟩
              replace hb := hb.trans (hb5.mono hb.size)
              replace hP := hP.below hb5 hP.lt
              replace hX := hX.below hb5 hX.lt
              clear hb5
              obtain ⟨oa, ob, oc, od⟩ := out
              obtain ⟨⟨c0, c1, c2, c3⟩, f0, f1, f2, f3⟩ := hX.all
              simp only at c0 c1 c2 c3
              have KR1 := Lib.hid (KR.out b b' (by omega) (by omega))
              have hrk : (rangeW b b').Ok := ofN_ok _
              have hrw : rangeW b b' = rngW b b' := rfl
              have KJ1 := Lib.hid (KJ.out ⟨oa, ob, oc, od⟩ (rangeW b b') hok hrk)
              have hjk : ((⟨oa, ob, oc, od⟩ : Ws).join (rangeW b b')).Ok := Ws.join_ok hok hrk
              have HN := Lib.hid (fun r (h : PCls ((⟨oa, ob, oc, od⟩ : Ws).join (rangeW b b')) (tl s k3) r) => HI.out r (HD.out _ r h))
              have hXl := hX.lt
              have hPl := hP.lt
              have HXX := Lib.hid hX
              have HPP := Lib.hid hP
              generalize hrg : rangeW b b' = rg at *
              obtain ⟨ra, rb, rc, rd⟩ := rg
              generalize hjg : (⟨oa, ob, oc, od⟩ : Ws).join ⟨ra, rb, rc, rd⟩ = jg at *
              obtain ⟨ja, jb, jc, jd⟩ := jg
              unfold Ws.v at KR1 KJ1
              simp only at KR1 KJ1
              clear hrg hjg hrw hX hP
              go_wp2_with fail
              go_region_with (first
                | (go_at_call 57; (with_reducible refine (KR1.out _).mono ?_); (rintro e wa ⟨rfl, hba⟩); (obtain ⟨⟨c0', c1', c2', c3'⟩, -⟩ := ((HXX.out.drewN 1).below hba hXl).all); (simp only at c0' c1' c2' c3'))
                | (go_at_call 69; (with_reducible refine (KJ1.out _).mono ?_); (rintro e wb ⟨rfl, hbb⟩); (have hXb := ((HXX.out.drewN 1).below hba hXl).below hbb (Nat.lt_of_lt_of_le hXl hba.size)); (obtain ⟨⟨d0, d1, d2, d3⟩, g0, g1, g2, g3⟩ := hXb.all); (simp only at d0 d1 d2 d3))
                | fail)
              all_goals
                go_wp2
                have hbx : Below w.heap.size w wb := (hb.drew.trans (hba.mono hb.drew.size)).trans (hbb.mono (Nat.le_trans hb.drew.size hba.size))
                have hPb := (HPP.out.below (Below.refl _ _).drew hPl |>.below hba hPl).below hbb (Nat.lt_of_lt_of_le hPl hba.size)
                exact ⟨⟨k3, ⟨ja, jb, jc, jd⟩, by go_num, by omega, hjk, hPb.far4 (by omega) _ _ _ _, hXb.put4 _ _ _ _, below_put hbx (by omega) _ _ _ _, HN.out⟩, by simp [intOf]; omega⟩
end Go.Proofs.Ytmkjcbgcikgglaa
/- quillref06's atom, given alt. -/
namespace Go.Proofs.Ytmkjcbgcikgglaa
open Go.RowKit
def AltC (s : ByteArray) (N : Nat) : Prop := ∀ (i : Nat), i ≤ s.size → s.size - i ≤ N → ∀ (w : World) (res : PR), PX .alt (tl s i) res → Calls Try.prog 16 #[.string s, .int .i64 i] w (ParsePost s w res)
def AtomC (s : ByteArray) (N : Nat) : Prop := ∀ (i : Nat), i ≤ s.size → s.size - i ≤ N → ∀ (w : World) (res : PR), PX .atom (tl s i) res → Calls Try.prog 42 #[.string s, .int .i64 i] w (ParsePost s w res)
theorem range_full : rangeW 0 255 = Ws.full := by
  refine Ws.has_ext (ofN_ok _) Ws.full_ok fun m hm => ?_
  rw [Ws.has_full]
  show (rngW 0 255).has m = true
  unfold rngW
  rw [has_ofN _ (by intro x hx; simp at hx; omega) m hm]
  simp; omega
theorem ofR_full : ofR Ws.full = (Ex.cls Ws.full).rx := by
  have := ofS_rx Ws.full
  rw [← this]
  unfold ofS
  rw [if_neg (fun e => full_ne (sameW_iff.1 e))]
theorem one_rng {b : Nat} (h : b < 256) : ofN (natsOf [UInt8.ofNat b]) = rngW b b := by
  have e : natsOf [UInt8.ofNat b] = [b] := by
    have : (UInt8.ofNat b).toNat = b := by simp; omega
    simp [natsOf, this]
  rw [e]
  unfold rngW
  rw [show b + 1 - b = 1 from by omega]; rfl
theorem ofR_one {b : Nat} (h : b < 256) : ofR (rngW b b) = (Ex.cls (rngW b b)).rx := by
  rw [← ofS_rx]
  unfold ofS
  rw [if_neg (fun e => rng_ne h (sameW_iff.1 e))]
theorem pos_cons {s : ByteArray} {i : Nat} {c : UInt8} {t : List UInt8} (h : tl s i = c :: t) (hi : i ≤ s.size) : i < s.size ∧ tl s (i + 1) = t ∧ s.size - t.length = i + 1 := by
  have hl := congrArg List.length h
  rw [tl_len] at hl
  simp only [List.length_cons] at hl
  have h1 : i < s.size := by omega
  rw [tl_cons s i h1] at h
  simp only [List.cons.injEq] at h
  exact ⟨h1, h.2, by omega⟩
theorem PB.alloc {w : World} {g : Nat} {x0 x1 x2 x3 x4 x5 x6 x7 : Value} (h : PB w g x0 x1 x2 x3 x4 x5 x6 x7) (o : Obj) : PB (w.alloc o) g x0 x1 x2 x3 x4 x5 x6 x7 := h.below ((Below.refl _ w).alloc (Nat.le_refl _) o) h.lt
theorem bel_a {w w' : World} {B : Nat} (h : Below B w w') (hB : B ≤ w.heap.size) (o : Obj) : Below B w (w'.alloc o) := h.alloc (Nat.le_trans hB h.size) o
theorem ReAt.alloc {ok : Nat → Prop} {w : World} {v : Value} {r : Rx} (h : ReAt ok w v r) (o : Obj) : ReAt ok (w.alloc o) v r := h.below ((Below.refl _ w).alloc (Nat.le_refl _) o)
set_option maxHeartbeats 8000000 in
theorem atom_any {s : ByteArray} {N : Nat} (hs : s.size ≤ 1000000000) (ih : ∀ M, M < N → AltC s M) : AtomC s N := by
  intro i hi hN w res hres
  have KI := Lib.hid fun (k : Nat) (c : UInt8) W => is_any s k c W
  have KB := Lib.hid badP_any
  have HRES := Lib.hid (fun r (h : PX .atom (tl s i) r) => hres.det h)
  have K46 := Lib.hid (fun W => show Calls Try.prog 23 #[.string s, .int .i64 i, .int .u8 46] W fun e w' => e = .returned (.bool (atB 46 (tl s i))) ∧ w' = W from KI.out i 46 W)
  have K91 := Lib.hid (fun W => show Calls Try.prog 23 #[.string s, .int .i64 i, .int .u8 91] W fun e w' => e = .returned (.bool (atB 91 (tl s i))) ∧ w' = W from KI.out i 91 W)
  have K40 := Lib.hid (fun W => show Calls Try.prog 23 #[.string s, .int .i64 i, .int .u8 40] W fun e w' => e = .returned (.bool (atB 40 (tl s i))) ∧ w' = W from KI.out i 40 W)
  have w1' : IntKind.i64.wrap ((i : Int) + 1) = (i : Int) + 1 := by rw [IntKind.wrap_i64]; omega
  have w2' : IntKind.i64.wrap ((i : Int) + 2) = (i : Int) + 2 := by rw [IntKind.wrap_i64]; omega
  obtain ⟨W0, hW0⟩ : ∃ W0, W0 = w.alloc (.cells #[.int .u8 0, .int .u64 0, .int .u64 0, .int .u64 0, .int .u64 0, .slice none 0 0, .int .i64 0, .bool false] 48) := ⟨_, rfl⟩
  have hP : PZ W0 w.heap.size := by rw [hW0]; exact blk_new w _
  have hb : Below w.heap.size w W0 := by rw [hW0]; exact (Below.refl _ w).alloc (Nat.le_refl _) _
  have HW0 := Lib.hid hW0
  clear hres hW0
  cases h46 : atB 46 (tl s i) with
  | true =>
    obtain ⟨t, ht⟩ := atB_yes h46
    obtain ⟨_, _, hpos⟩ := pos_cons ht hi
    have HR := Lib.hid (HRES.out _ (by rw [ht]; exact PX.dot t))
    rw [h46] at K46
    have KR := Lib.hid (fun W => refRange_any 0 255 W (by decide) (by decide))
    rw [range_full] at KR
    have KO := Lib.hid (fun W => refOfR_any Ws.full W Ws.full_ok)
    rw [ofR_full] at KO
    unfold Ws.v at KR KO
    simp only [Ws.full] at KR KO
    clear h46 ht
    go_enter Try.func42, Try.ntmps42
    go_wp2_with fail
    rw [← HW0.out]
    clear HW0
    refine (K46.out _).mono ?_
    rintro e w1 ⟨rfl, rfl⟩
    go_wp2_with fail
    refine (KR.out _).mono ?_
    rintro e w2 ⟨rfl, hb2⟩
    have hP2 := hP.below hb2 hP.lt
    replace hb := hb.trans (hb2.mono hb.size)
    clear hb2
    go_wp2_with fail
    refine (KO.out _).mono ?_
    rintro e w3 ⟨v, rfl, hv, hb3⟩
    obtain ⟨y0, y1, y2, y3, y4, yl, yn, yc, rfl⟩ := cells_re hv
    have hP3 := hP2.below hb3 hP2.lt
    obtain ⟨p0, p1, p2, p3, p4, p5, p6, p7⟩ := hP3.cells
    obtain ⟨f0, f1, f2, f3, f4, f5, f6, f7⟩ := hP3.frozen
    have HV := Lib.hid hv
    have hplt := hP2.lt
    replace hb := hb.trans (hb3.mono hb.size)
    clear hv hb3
    go_wp2
    exact ret_p (hP3.put _ _ _ _ _ _ _ _) Try.results42 rfl rfl (post_ok HR.out (by rw [hpos]; rfl) (bel8 hb (Nat.le_refl _) _ _ _ _ _ _ _ _) (HV.out.put8 hplt (Nat.le_of_lt hplt) _ _ _ _ _ _ _ _))
  | false =>
    have n46 := atB_no h46
    rw [h46] at K46
    cases h91 : atB 91 (tl s i) with
    | true =>
      obtain ⟨t, ht⟩ := atB_yes h91
      obtain ⟨_, ht1, hpos⟩ := pos_cons ht hi
      rw [h91] at K91
      obtain ⟨rc, hrc⟩ := PCls.total _ Ws.nil t (Nat.le_refl _)
      have HR := Lib.hid (HRES.out _ (by rw [ht]; exact PX.cls hrc))
      have KC := Lib.hid (fun W => show Calls Try.prog 58 #[.string s, .int .i64 ((i : Int) + 1)] W (ParsePost s W rc) from class_any s (i + 1) W rc hs (by omega) (by rw [ht1]; exact hrc))
      clear h91 h46 n46 ht ht1 hrc
      cases rc with
      | ok ex l =>
        go_enter Try.func42, Try.ntmps42
        go_wp2_with fail
        rw [← HW0.out]
        clear HW0
        refine (K46.out _).mono ?_
        rintro e w1 ⟨rfl, rfl⟩
        go_wp2_with fail
        refine (K91.out _).mono ?_
        rintro e w1 ⟨rfl, rfl⟩
        go_wp2_with fail
        refine (KC.out _).mono ?_
        rintro e w2 hpp
        obtain ⟨y0, y1, y2, y3, y4, yl, yn, yc, rfl, hv, hb2⟩ := hpp.ok
        have hplt := hP.lt
        replace hP := hP.below hb2 hP.lt
        replace hb := hb.trans (hb2.mono hb.size)
        have HV := Lib.hid hv
        clear hpp hv hb2
        obtain ⟨p0, p1, p2, p3, p4, p5, p6, p7⟩ := hP.cells
        obtain ⟨f0, f1, f2, f3, f4, f5, f6, f7⟩ := hP.frozen
        go_wp2
        exact ret_p (hP.put _ _ _ _ _ _ _ _) Try.results42 rfl rfl (post_ok HR.out rfl (bel8 hb (Nat.le_refl _) _ _ _ _ _ _ _ _) (HV.out.put8 hplt (Nat.le_of_lt hplt) _ _ _ _ _ _ _ _))
      | bad r =>
        go_enter Try.func42, Try.ntmps42
        go_wp2_with fail
        rw [← HW0.out]
        clear HW0
        refine (K46.out _).mono ?_
        rintro e w1 ⟨rfl, rfl⟩
        go_wp2_with fail
        refine (K91.out _).mono ?_
        rintro e w1 ⟨rfl, rfl⟩
        go_wp2_with fail
        refine (KC.out _).mono ?_
        rintro e w2 hpp
        obtain ⟨y0, y1, y2, y3, y4, yl, yn, yc, rfl, hb2⟩ := hpp.bad
        replace hP := hP.below hb2 hP.lt
        replace hb := hb.trans (hb2.mono hb.size)
        clear hpp hb2
        obtain ⟨p0, p1, p2, p3, p4, p5, p6, p7⟩ := hP.cells
        obtain ⟨f0, f1, f2, f3, f4, f5, f6, f7⟩ := hP.frozen
        go_wp2
        exact ret_p (hP.put _ _ _ _ _ _ _ _) Try.results42 rfl rfl (post_bad HR.out rfl (bel8 hb (Nat.le_refl _) _ _ _ _ _ _ _ _))
    | false =>
      have n91 := atB_no h91
      rw [h91] at K91
      cases h40 : atB 40 (tl s i) with
      | true =>
        obtain ⟨t, ht⟩ := atB_yes h40
        obtain ⟨hlt, ht1, hpos⟩ := pos_cons ht hi
        rw [h40] at K40
        have K41 := Lib.hid (fun W => show Calls Try.prog 23 #[.string s, .int .i64 ((i : Int) + 1), .int .u8 41] W fun e w' => e = .returned (.bool (atB 41 (tl s (i + 1)))) ∧ w' = W from KI.out (i + 1) 41 W)
        rw [ht1] at K41
        cases h41 : atB 41 t with
        | true =>
          obtain ⟨u, hu⟩ := atB_yes h41
          obtain ⟨_, _, hpos2⟩ := pos_cons (ht1.trans hu) (by omega)
          rw [h41] at K41
          have HR := Lib.hid (HRES.out _ (by rw [ht, hu]; exact PX.eps u))
          have KBR := Lib.hid (fun W => bare_any 2 W (by decide))
          clear h41 h40 h91 h46 n46 n91 ht ht1 hu
          go_enter Try.func42, Try.ntmps42
          go_wp2_with fail
          rw [← HW0.out]
          clear HW0
          refine (K46.out _).mono ?_
          rintro e w1 ⟨rfl, rfl⟩
          go_wp2_with fail
          refine (K91.out _).mono ?_
          rintro e w1 ⟨rfl, rfl⟩
          go_wp2_with fail
          refine (K40.out _).mono ?_
          rintro e w1 ⟨rfl, rfl⟩
          go_wp2_with fail
          refine (K41.out _).mono ?_
          rintro e w1 ⟨rfl, rfl⟩
          go_wp2_with fail
          refine (KBR.out _).mono ?_
          rintro e w3 ⟨v, rfl, hv, hb3⟩
          obtain ⟨y0, y1, y2, y3, y4, yl, yn, yc, rfl⟩ := cells_re hv
          have hplt := hP.lt
          replace hP := hP.below hb3 hP.lt
          replace hb := hb.trans (hb3.mono hb.size)
          have HV := Lib.hid hv
          clear hv hb3
          obtain ⟨p0, p1, p2, p3, p4, p5, p6, p7⟩ := hP.cells
          obtain ⟨f0, f1, f2, f3, f4, f5, f6, f7⟩ := hP.frozen
          go_wp2
          exact ret_p (hP.put _ _ _ _ _ _ _ _) Try.results42 rfl rfl (post_ok HR.out (by rw [hpos2]; go_num) (bel8 hb (Nat.le_refl _) _ _ _ _ _ _ _ _) (HV.out.put8 hplt (Nat.le_of_lt hplt) _ _ _ _ _ _ _ _))
        | false =>
          have n41 := atB_no h41
          rw [h41] at K41
          obtain ⟨ra, hra⟩ := (PX.total _ t (Nat.le_refl _)).2.2
          have KA := Lib.hid (fun W => show Calls Try.prog 16 #[.string s, .int .i64 ((i : Int) + 1)] W (ParsePost s W ra) from ih (s.size - (i + 1)) (by omega) (i + 1) (by omega) (Nat.le_refl _) W ra (by rw [ht1]; exact hra))
          have hfa := hra.fact
          cases ra with
          | bad r =>
            have HR := Lib.hid (HRES.out _ (by rw [ht]; exact PX.roundBad n41 hra))
            clear h41 h40 h91 h46 n46 n91 n41 ht ht1 hra hfa
            go_enter Try.func42, Try.ntmps42
            go_wp2_with fail
            rw [← HW0.out]
            clear HW0
            refine (K46.out _).mono ?_
            rintro e w1 ⟨rfl, rfl⟩
            go_wp2_with fail
            refine (K91.out _).mono ?_
            rintro e w1 ⟨rfl, rfl⟩
            go_wp2_with fail
            refine (K40.out _).mono ?_
            rintro e w1 ⟨rfl, rfl⟩
            go_wp2_with fail
            refine (K41.out _).mono ?_
            rintro e w1 ⟨rfl, rfl⟩
            go_wp2_with fail
            refine (KA.out _).mono ?_
            rintro e w2 hpp
            obtain ⟨y0, y1, y2, y3, y4, yl, yn, yc, rfl, hb2⟩ := hpp.bad
            replace hP := hP.below hb2 hP.lt
            replace hb := hb.trans (hb2.mono hb.size)
            clear hpp hb2
            obtain ⟨p0, p1, p2, p3, p4, p5, p6, p7⟩ := hP.cells
            obtain ⟨f0, f1, f2, f3, f4, f5, f6, f7⟩ := hP.frozen
            have hplt := hP.lt
            go_wp2
            exact ret_p ((hP.put _ _ _ _ _ _ _ _).alloc _) Try.results42 rfl rfl (post_bad HR.out rfl (bel_a (bel8 hb (Nat.le_refl _) _ _ _ _ _ _ _ _) (Nat.le_refl _) _))
          | ok ex l1 =>
            obtain ⟨_, hsuf, _, _⟩ := hfa
            rw [← ht1] at hsuf
            obtain ⟨k1, hk1, hpos1, hl1, hln1⟩ := left_pos hsuf (by omega)
            have K41b := Lib.hid (fun W => show Calls Try.prog 23 #[.string s, .int .i64 k1, .int .u8 41] W fun e w' => e = .returned (.bool (atB 41 (tl s k1))) ∧ w' = W from KI.out k1 41 W)
            rw [← hl1] at K41b
            cases hc : atB 41 l1 with
            | true =>
              obtain ⟨u, hu⟩ := atB_yes hc
              obtain ⟨_, _, hpos2⟩ := pos_cons (hl1.symm.trans hu) hk1
              rw [hc] at K41b
              have HR := Lib.hid (HRES.out _ (by rw [ht]; exact PX.round n41 (by rw [← hu]; exact hra)))
              have wk : IntKind.i64.wrap ((k1 : Int) + 1) = (k1 : Int) + 1 := by rw [IntKind.wrap_i64]; omega
              clear h41 h40 h91 h46 n46 n91 n41 ht ht1 hra hsuf hl1 hu hc
              go_enter Try.func42, Try.ntmps42
              go_wp2_with fail
              rw [← HW0.out]
              clear HW0
              refine (K46.out _).mono ?_
              rintro e w1 ⟨rfl, rfl⟩
              go_wp2_with fail
              refine (K91.out _).mono ?_
              rintro e w1 ⟨rfl, rfl⟩
              go_wp2_with fail
              refine (K40.out _).mono ?_
              rintro e w1 ⟨rfl, rfl⟩
              go_wp2_with fail
              refine (K41.out _).mono ?_
              rintro e w1 ⟨rfl, rfl⟩
              go_wp2_with fail
              refine (KA.out _).mono ?_
              rintro e w2 hpp
              obtain ⟨y0, y1, y2, y3, y4, yl, yn, yc, rfl, hv, hb2⟩ := hpp.ok
              rw [hpos1]
              have hplt := hP.lt
              replace hP := hP.below hb2 hP.lt
              replace hb := hb.trans (hb2.mono hb.size)
              have HV := Lib.hid hv
              clear hpp hv hb2
              have hplt2 := hP.lt
              go_wp2_with fail
              refine (K41b.out _).mono ?_
              rintro e w3 ⟨rfl, rfl⟩
              obtain ⟨p0, p1, p2, p3, p4, p5, p6, p7⟩ := hP.cells
              obtain ⟨f0, f1, f2, f3, f4, f5, f6, f7⟩ := hP.frozen
              go_wp2
              exact ret_p ((hP.put _ _ _ _ _ _ _ _).alloc _) Try.results42 rfl rfl (post_ok HR.out (by rw [hpos2]; rfl) (bel_a (bel8 hb (Nat.le_refl _) _ _ _ _ _ _ _ _) (Nat.le_refl _) _) ((HV.out.put8 hplt (Nat.le_of_lt hplt) _ _ _ _ _ _ _ _).alloc _))
            | false =>
              have nc := atB_no hc
              rw [hc] at K41b
              have HR := Lib.hid (HRES.out _ (by rw [ht]; exact PX.roundNo n41 hra nc))
              clear h41 h40 h91 h46 n46 n91 n41 ht ht1 hra hsuf hl1 hc nc
              go_enter Try.func42, Try.ntmps42
              go_wp2_with fail
              rw [← HW0.out]
              clear HW0
              refine (K46.out _).mono ?_
              rintro e w1 ⟨rfl, rfl⟩
              go_wp2_with fail
              refine (K91.out _).mono ?_
              rintro e w1 ⟨rfl, rfl⟩
              go_wp2_with fail
              refine (K40.out _).mono ?_
              rintro e w1 ⟨rfl, rfl⟩
              go_wp2_with fail
              refine (K41.out _).mono ?_
              rintro e w1 ⟨rfl, rfl⟩
              go_wp2_with fail
              refine (KA.out _).mono ?_
              rintro e w2 hpp
              obtain ⟨y0, y1, y2, y3, y4, yl, yn, yc, rfl, -, hb2⟩ := hpp.ok
              rw [hpos1]
              replace hP := hP.below hb2 hP.lt
              replace hb := hb.trans (hb2.mono hb.size)
              clear hpp hb2
              have hplt2 := hP.lt
              go_wp2_with fail
              refine (K41b.out _).mono ?_
              rintro e w3 ⟨rfl, rfl⟩
              go_wp2_with fail
              refine (KB.out k1 _).mono ?_
              rintro e w4 ⟨rfl, hb4⟩
              replace hb := (bel_a hb (Nat.le_refl _) _).trans (hb4.mono (Nat.le_trans hb.size (by simp)))
              replace hP := (hP.alloc _).below hb4 (Nat.lt_of_lt_of_le hP.lt (by simp))
              clear hb4
              obtain ⟨p0, p1, p2, p3, p4, p5, p6, p7⟩ := hP.cells
              obtain ⟨f0, f1, f2, f3, f4, f5, f6, f7⟩ := hP.frozen
              go_wp2
              exact ret_p (hP.put _ _ _ _ _ _ _ _) Try.results42 rfl rfl (post_bad HR.out (by rw [hpos1]) (bel8 hb (Nat.le_refl _) _ _ _ _ _ _ _ _))
      | false =>
        have n40 := atB_no h40
        rw [h40] at K40
        have KS := Lib.hid fun W => refSgn_any s i W hs hi
        have hsf := sgn_fact (tl s i)
        cases hsg : sgn (tl s i) with
        | bad r =>
          rw [hsg] at KS hsf
          obtain ⟨k1, hk1, hpos, _, _⟩ := left_pos hsf hi
          have HR := Lib.hid (HRES.out _ (PX.signBad n46 n91 n40 hsg))
          rw [signV_bad, hpos] at KS
          have d0 : decide ((-1 : Int) < 0) = true := rfl
          clear h40 h91 h46 n46 n91 n40 hsf hsg
          go_enter Try.func42, Try.ntmps42
          go_wp2_with fail
          rw [← HW0.out]
          clear HW0
          refine (K46.out _).mono ?_
          rintro e w1 ⟨rfl, rfl⟩
          go_wp2_with fail
          refine (K91.out _).mono ?_
          rintro e w1 ⟨rfl, rfl⟩
          go_wp2_with fail
          refine (K40.out _).mono ?_
          rintro e w1 ⟨rfl, rfl⟩
          go_wp2_with fail
          refine (KS.out _).mono ?_
          rintro e w2 ⟨rfl, hb2⟩
          replace hP := hP.below hb2 hP.lt
          replace hb := hb.trans (hb2.mono hb.size)
          clear hb2
          go_wp2_with fail
          refine (KB.out k1 _).mono ?_
          rintro e w4 ⟨rfl, hb4⟩
          replace hP := hP.below hb4 hP.lt
          replace hb := hb.trans (hb4.mono hb.size)
          clear hb4
          obtain ⟨p0, p1, p2, p3, p4, p5, p6, p7⟩ := hP.cells
          obtain ⟨f0, f1, f2, f3, f4, f5, f6, f7⟩ := hP.frozen
          go_wp2
          exact ret_p (hP.put _ _ _ _ _ _ _ _) Try.results42 rfl rfl (post_bad HR.out (by rw [hpos]) (bel8 hb (Nat.le_refl _) _ _ _ _ _ _ _ _))
        | ok b l1 =>
          rw [hsg] at KS hsf
          obtain ⟨hb256, hsuf, hlt1⟩ := hsf
          obtain ⟨k1, hk1, hpos1, hl1, hln1⟩ := left_pos hsuf hi
          rw [signV_ok, hpos1] at KS
          have HR := Lib.hid (HRES.out _ (PX.sign n46 n91 n40 hsg))
          have d0 : decide ((b : Int) < 0) = false := by simp
          have wb : IntKind.u8.wrap (b : Int) = (b : Int) := by rw [IntKind.wrap_u8]; omega
          clear h40 h91 h46 n46 n91 n40 hsuf hsg hl1
          go_enter Try.func42, Try.ntmps42
          go_wp2_with fail
          rw [← HW0.out]
          clear HW0
          refine (K46.out _).mono ?_
          rintro e w1 ⟨rfl, rfl⟩
          go_wp2_with fail
          refine (K91.out _).mono ?_
          rintro e w1 ⟨rfl, rfl⟩
          go_wp2_with fail
          refine (K40.out _).mono ?_
          rintro e w1 ⟨rfl, rfl⟩
          go_wp2_with fail
          refine (KS.out _).mono ?_
          rintro e w2 ⟨rfl, hb2⟩
          replace hP := hP.below hb2 hP.lt
          replace hb := hb.trans (hb2.mono hb.size)
          clear hb2
          go_wp2_with fail
          have hby : BytesAt (w2.alloc (.cells #[.int .u8 (b : Int)] 5)) (some ⟨w2.heap.size, 0, none⟩) [UInt8.ofNat b] := by
            refine ⟨by simp [maxLen], .inr ⟨_, 0, rfl, by simp, fun j h => ?_⟩⟩
            match j, h with
            | 0, _ => simp; omega
          refine (refOf_any (some ⟨w2.heap.size, 0, none⟩) [UInt8.ofNat b] 1 _ hby).mono ?_
          rintro e w3 ⟨rfl, hb3⟩
          rw [one_rng hb256]
          replace hb := (bel_a hb (Nat.le_refl _) _).trans (hb3.mono (Nat.le_trans hb.size (by simp)))
          replace hP := (hP.alloc _).below hb3 (Nat.lt_of_lt_of_le hP.lt (by simp))
          have KO := Lib.hid (fun W => refOfR_any (rngW b b) W (rng_ok b b))
          rw [ofR_one hb256] at KO
          clear hb3 hby
          generalize Ex.cls (rngW b b) = EX at *
          generalize rngW b b = rg at *
          obtain ⟨ra, rb, rc, rd⟩ := rg
          unfold Ws.v at KO ⊢
          simp only at KO
          go_wp2_with fail
          refine (KO.out _).mono ?_
          rintro e w4 ⟨v, rfl, hv, hb4⟩
          obtain ⟨y0, y1, y2, y3, y4, yl, yn, yc, rfl⟩ := cells_re hv
          have hplt := hP.lt
          replace hP := hP.below hb4 hP.lt
          replace hb := hb.trans (hb4.mono hb.size)
          have HV := Lib.hid hv
          clear hv hb4
          obtain ⟨p0, p1, p2, p3, p4, p5, p6, p7⟩ := hP.cells
          obtain ⟨f0, f1, f2, f3, f4, f5, f6, f7⟩ := hP.frozen
          go_wp2
          exact ret_p (hP.put _ _ _ _ _ _ _ _) Try.results42 rfl rfl (post_ok HR.out (by rw [hpos1]) (bel8 hb (Nat.le_refl _) _ _ _ _ _ _ _ _) (HV.out.put8 hplt (Nat.le_of_lt hplt) _ _ _ _ _ _ _ _))
end Go.Proofs.Ytmkjcbgcikgglaa
/- quillref06's alt, given row. -/
namespace Go.Proofs.Ytmkjcbgcikgglaa
open Go.RowKit
def RowC (s : ByteArray) (N : Nat) : Prop := ∀ (i : Nat), i ≤ s.size → s.size - i ≤ N → ∀ (w : World) (res : PR), PX .row (tl s i) res → Calls Try.prog 22 #[.string s, .int .i64 i] w (ParsePost s w res)
theorem fold_seq : ∀ (ps : List Ex), ps ≠ [] → (foldE .seq ps).rx = foldR 4 2 (ps.map Ex.rx)
  | [], h => absurd rfl h
  | [e], _ => rfl
  | e :: e' :: l, _ => by
    have ih := fold_seq (e' :: l) (by simp)
    show Rx.node 4 Ws.nil [e.rx, (foldE .seq (e' :: l)).rx] = _
    rw [ih]; rfl
theorem fold_alt : ∀ (ps : List Ex), ps ≠ [] → (foldE .alt ps).rx = foldR 5 1 (ps.map Ex.rx)
  | [], h => absurd rfl h
  | [e], _ => rfl
  | e :: e' :: l, _ => by
    have ih := fold_alt (e' :: l) (by simp)
    show Rx.node 5 Ws.nil [e.rx, (foldE .alt (e' :: l)).rx] = _
    rw [ih]; rfl
/-- Above B, and not where the row itself lies. -/
def Kd (B : Nat) (v : Value) (b : Nat) : Prop := B < b ∧ v.ownBlock ≠ some b
/-- A row of one's own that holds expressions. -/
def RowO (B : Nat) (w : World) (v : Value) (ps : List Ex) : Prop := ∃ xs, w.ownsRow (B + 1) 28 6 v ps.length xs ∧ RowVals (Kd B v) w xs (ps.map Ex.rx)
theorem RowO.below {B : Nat} {w w' : World} {v : Value} {ps : List Ex} (h : RowO B w v ps) (hb : Below w.heap.size w w') : RowO B w' v ps := by
  obtain ⟨xs, h1, h2⟩ := h
  exact ⟨xs, ownR_below h1 hb, h2.go (keptB hb _)⟩
theorem RowO.lt {B : Nat} {w : World} {v : Value} {ps : List Ex} (h : RowO B w v ps) {g : Nat} (hg : v.ownBlock = some g) : B + 1 ≤ g ∧ g < w.heap.size := by
  obtain ⟨xs, h1, _⟩ := h
  exact h1.lt g hg
theorem RowO.start {B : Nat} {w : World} (hB : B + 1 ≤ w.heap.size) : RowO B (w.alloc (.cells #[] 28)) (.slice (some ⟨w.heap.size, 0, none⟩) 0 0) [] :=
  ⟨[], ⟨rfl, .inr ⟨w.heap.size, 0, #[], rfl, hB, blk_new w _, Nat.le_refl _, Nat.zero_le _, rfl, rfl⟩⟩, RowVals.nil _ _⟩
/-- What append leaves: the row with one more. -/
theorem RowO.push {B : Nat} {w1 w4 : World} {v v' : Value} {ps : List Ex} {e : Ex} {o o' : Obj} {c0 c1 c2 c3 c4 c5 : Value} {xs : List Value} (hB : B < w1.heap.size) (hv : RowVals (Kd B v) w1 xs (ps.map Ex.rx)) (hlt : ∀ g, v.ownBlock = some g → B + 1 ≤ g ∧ g < w1.heap.size)
    (he : ReAt (Kd B v) w1 (.agg #[c0, c1, c2, c3, c4, c5]) e.rx) (hown : w4.ownsRow (B + 1) 28 6 v' (ps.length + 1) (xs ++ [c0, c1, c2, c3, c4, c5])) (hgrow : ((w1.alloc o).alloc o').grownBy w4 v.ownBlock)
    (hat : v'.ownBlock = v.ownBlock ∨ v'.ownBlock = some (w1.heap.size + 1 + 1)) : RowO B w4 v' (ps ++ [e]) ∧ Below (B + 1) w1 w4 ∧ (∀ k, k < w1.heap.size + 1 → v.ownBlock ≠ some k → w4.heap[k]? = (w1.alloc o).heap[k]?) := by
  have hsz : ((w1.alloc o).alloc o').heap.size = w1.heap.size + 2 := by simp
  have hk : ∀ k, k < w1.heap.size + 1 → v.ownBlock ≠ some k → w4.heap[k]? = (w1.alloc o).heap[k]? := fun k h1 h2 =>
    (hgrow.block k (by rw [hsz]; omega) (fun e => h2 e.symm)).trans (Below.heap_alloc _ _ _ (by simpa using h1))
  have hkept : Kept (Kd B v) (Kd B v') w1 w4 := by
    refine ⟨Nat.le_trans (by rw [hsz]; omega) hgrow.size, fun b h1 h2 => ⟨⟨h2.1, ?_⟩, ?_⟩⟩
    · rcases hat with h | h
      · rw [h]; exact h2.2
      · rw [h]
        intro e
        have := Option.some.inj e
        omega
    · exact (hk b (by omega) h2.2).trans (Below.heap_alloc _ _ _ h1)
  refine ⟨⟨xs ++ [c0, c1, c2, c3, c4, c5], by simpa using hown, ?_⟩, ?_, hk⟩
  · rw [List.map_append]
    exact (hv.go hkept).append ((RowVals.one he).go hkept)
  · refine (((Below.refl (B + 1) w1).alloc hB o).alloc (by simp; omega) o').grown hgrow (by rw [hsz]; omega) fun g hg => (hlt g hg).1
theorem RowO.row {B : Nat} {w : World} {v : Value} {ps : List Ex} (h : RowO B w v ps) : ∃ al cap, v = .slice al ps.length cap ∧ ps.length ≤ cap ∧ RowAt (New (B + 1)) w al (ps.map Ex.rx) := by
  obtain ⟨xs, h1, h2⟩ := h
  have hl : (ps.map Ex.rx).length = ps.length := List.length_map ..
  rw [← hl] at h1
  obtain ⟨al, cap, e1, e2, e3⟩ := row_of_own h1 h2
  rw [hl] at e1 e2
  refine ⟨al, cap, e1, e2, e3.imp fun b _ h => ?_⟩
  rcases h with h | h
  · exact h.1
  · exact h
theorem six_at (w : World) {g : Nat} (hg : g = w.heap.size) (c0 c1 c2 c3 c4 c5 : Value) : ∀ j u, [c0, c1, c2, c3, c4, c5][j]? = some u → (w.alloc (.cells #[c0, c1, c2, c3, c4, c5] 28)).cell? ((⟨g, 0, none⟩ : Addr).add j) = some u := by
  subst hg
  exact six_cells w c0 c1 c2 c3 c4 c5
def altInv (s : ByteArray) (i : Nat) (w : World) (vat vl : Value) (wr : World) : Prop := ∃ (k : Nat) (ps : List Ex), vat = .int .i64 k ∧ i ≤ k ∧ k ≤ s.size ∧ ps.length ≤ k ∧ PZ wr w.heap.size ∧ Below w.heap.size w wr ∧ RowO w.heap.size wr vl ps ∧ AltSt (tl s i) ps (tl s k)
set_option maxHeartbeats 8000000 in
theorem alt_any {s : ByteArray} {N : Nat} (hs : s.size ≤ 1000000000) (ih : RowC s N) : AltC s N := by
  intro i hi hN w res hres
  obtain ⟨i0, hi0, hz0, hz1, hz2⟩ := info_parts infoR
  have hz2' := Lib.hid hz2
  have KI := Lib.hid fun (k : Nat) (c : UInt8) W => is_any s k c W
  have HRES := Lib.hid (fun r (h : PX .alt (tl s i) r) => hres.det h)
  clear hres hz2
  go_enter Try.func16, Try.ntmps16
  go_wp2_with fail
  go_loopw [1, 5] (fun a l wr => altInv s i w a l wr) (fun a _ _ => s.size + 1 - (intOf a).toNat)
  case atStart =>
    refine ⟨i, [], rfl, Nat.le_refl _, hi, Nat.zero_le _, ?_, ((Below.refl _ w).alloc (Nat.le_refl _) _).alloc (by simp) _, ?_, AltSt.start _⟩
    · exact (Below.heap_alloc _ _ _ (by simp)).trans (blk_new w _)
    · have := RowO.start (B := w.heap.size) (w := w.alloc (.cells #[.int .u8 0, .int .u64 0, .int .u64 0, .int .u64 0, .int .u64 0, .slice none 0 0, .int .i64 0, .bool false] 48)) (by simp)
      simpa using this
  case round =>
    obtain ⟨k, ps, rfl, hik, hk, hpl, hP, hb, hO, hst⟩ := hrel
    have HP := Lib.hid hP
    have HO := Lib.hid hO
    have HST := Lib.hid hst
    clear hO hst hP
    obtain ⟨rr, hrr⟩ := (PX.total _ (tl s k) (Nat.le_refl _)).2.1
    have KR := Lib.hid (fun W => ih k hk (by omega) W rr hrr)
    have hfr := hrr.fact
    cases rr with
    | bad r =>
      have HR := Lib.hid (HRES.out _ (HST.out.bad hrr))
      clear hrr hfr
      go_wp2_with fail
      refine (KR.out _).mono ?_
      rintro e w2 hpp
      obtain ⟨y0, y1, y2, y3, y4, yl, yn, yc, rfl, hb2⟩ := hpp.bad
      have hP := HP.out.below hb2 HP.out.lt
      replace hb := hb.trans (hb2.mono hb.size)
      clear hpp hb2
      obtain ⟨p0, p1, p2, p3, p4, p5, p6, p7⟩ := hP.cells
      obtain ⟨f0, f1, f2, f3, f4, f5, f6, f7⟩ := hP.frozen
      have hplt := hP.lt
      go_wp2
      exact ret_p ((hP.put _ _ _ _ _ _ _ _).alloc _) Try.results16 rfl rfl (post_bad HR.out rfl (bel_a (bel8 hb (Nat.le_refl _) _ _ _ _ _ _ _ _) (Nat.le_refl _) _))
    | ok e l1 =>
      obtain ⟨_, hsuf, hll, _⟩ := hfr
      rw [tl_len] at hll
      obtain ⟨k1, hk1, hpos1, hl1, hln1⟩ := left_pos hsuf hk
      go_wp2_with fail
      refine (KR.out _).mono ?_
      rintro e' w2 hpp
      obtain ⟨y0, y1, y2, y3, y4, yl, yn, yc, rfl, hv, hb2⟩ := hpp.ok
      rw [hpos1]
      have hP := HP.out.below hb2 HP.out.lt
      have hbw := hb.trans (hb2.mono hb.size)
      have hplt := HP.out.lt
      have hplt2 := hP.lt
      have hO2 := HO.out.below hb2
      have hlt2 : ∀ g, u5.ownBlock = some g → w.heap.size + 1 ≤ g ∧ g < wr.heap.size := fun g hg => HO.out.lt hg
      have hlt3 : ∀ g, u5.ownBlock = some g → w.heap.size + 1 ≤ g ∧ g < w2.heap.size := fun g hg => ⟨(hlt2 g hg).1, Nat.lt_of_lt_of_le (hlt2 g hg).2 hb2.size⟩
      have hre : ReAt (Kd w.heap.size u5) w2 (.agg #[.int .u8 y0, .int .u64 y1, .int .u64 y2, .int .u64 y3, .int .u64 y4, .slice yl yn yc]) e.rx :=
        hv.imp fun b _ h => ⟨Nat.lt_of_lt_of_le hplt h, fun e => by have := (hlt2 b e).2; have h' : wr.heap.size ≤ b := h; omega⟩
      obtain ⟨xs, hown2, hvals2⟩ := hO2
      have HOW2 := Lib.hid hown2
      have HVA := Lib.hid hvals2
      have HRE := Lib.hid hre
      have HL3 := Lib.hid hlt3
      have HP2 := Lib.hid hP
      have HBW := Lib.hid hbw
      have HSZ := Lib.hid hb2.size
      clear hown2 hvals2 hre hlt2 hlt3 hpp hv hb2 hP hb
      have hszw := HBW.out.size
      have K124 := Lib.hid (fun W => show Calls Try.prog 23 #[.string s, .int .i64 k1, .int .u8 124] W fun e w' => e = .returned (.bool (atB 124 (tl s k1))) ∧ w' = W from KI.out k1 124 W)
      have wk : IntKind.i64.wrap ((k1 : Int) + 1) = (k1 : Int) + 1 := by rw [IntKind.wrap_i64]; omega
      go_wp2_with (at_builtin; refine wpList_append_at rfl _ _ 26 rfl (w.heap.size + 1) 28 i0 _ 6 64 Try.underlying26 hi0 hz0 hz1 hz2'.out rfl (by decide) _ _ _ rfl ((HOW2.out.alloc _).alloc _) ⟨w2.heap.size + 1, 0, none⟩ 1 1 [.int .u8 y0, .int .u64 y1, .int .u64 y2, .int .u64 y3, .int .u64 y4, .slice yl yn yc] rfl rfl ?c1 ?c2 ?c3 ?c4 ?c5 (by decide) ?_)
      case c1 => exact six_at _ (by simp) _ _ _ _ _ _
      case c2 => intro u hu; simp at hu; rcases hu with rfl | rfl | rfl | rfl | rfl | rfl <;> rfl
      case c3 => unfold maxLen; omega
      case c4 => omega
      case c5 => simp; omega
      intro v' w4 hown' hgrow hat
      obtain ⟨hO4, hb4, hk4⟩ := RowO.push (B := w.heap.size) (Nat.lt_of_lt_of_le (by omega) (Nat.le_refl w2.heap.size)) HVA.out HL3.out HRE.out hown' hgrow hat
      have hown_ne : u5.ownBlock ≠ some w2.heap.size := fun h => by have := (HL3.out _ h).2; omega
      have hPg : PB w4 w2.heap.size (.int .u8 y0) (.int .u64 y1) (.int .u64 y2) (.int .u64 y3) (.int .u64 y4) (.slice yl yn yc) (.int .i64 k1) (.bool false) := (hk4 _ (by omega) hown_ne).trans (blk_new w2 _)
      have hP4 := HP2.out.below hb4 (Nat.lt_succ_self _)
      have hbw4 := HBW.out.trans (hb4.mono (Nat.le_succ _))
      obtain ⟨-, -, -, -, -, -, q6, q7⟩ := hPg.cells
      obtain ⟨al, cap, rfl, hcap, hrow⟩ := hO4.row
      have HO4 := Lib.hid hO4
      have HP4 := Lib.hid hP4
      have HROW := Lib.hid hrow
      clear hO4 hrow hown' hgrow hat hk4 hb4 hPg hown_ne hP4
      have hlen : (ps ++ [e]).length = ps.length + 1 := by simp
      rw [hlen] at hcap ⊢
      cases h124 : atB 124 (tl s k1) with
      | true =>
        rw [h124] at K124
        obtain ⟨l2, hl2⟩ := atB_yes h124
        obtain ⟨hlt1, htl2, _⟩ := pos_cons hl2 hk1
        have HST2 := Lib.hid (show AltSt (tl s i) (ps ++ [e]) (tl s (k1 + 1)) from by rw [htl2]; exact HST.out.step (by rw [← hl2, ← hl1]; exact hrr))
        clear h124 hl2 htl2 hrr hsuf hl1
        rw [hlen] at HO4
        go_wp2_with fail
        refine (K124.out _).mono ?_
        rintro e' w5 ⟨rfl, rfl⟩
        go_wp2
        exact ⟨⟨k1 + 1, ps ++ [e], by go_num, by omega, by omega, by rw [hlen]; omega, HP4.out, hbw4, HO4.out, HST2.out⟩, by simp [intOf]; omega⟩
      | false =>
        rw [h124] at K124
        have HR := Lib.hid (HRES.out _ (HST.out.last (by rw [← hl1]; exact hrr) (atB_no h124)))
        have hmap : ((ps ++ [e]).map Ex.rx).length = ps.length + 1 := by simp
        have KF := Lib.hid (refFold_any 5 1 (.inr ⟨rfl, rfl⟩) ((ps ++ [e]).map Ex.rx) _ al cap w4 (by rw [hmap]; omega) (by rw [hmap]; omega) HROW.out)
        rw [hmap, ← fold_alt (ps ++ [e]) (by simp)] at KF
        have hpos2 : s.size - (tl s k1).length = k1 := by rw [tl_len]; omega
        clear h124 hrr hsuf hl1 HST
        generalize foldE Ex.alt (ps ++ [e]) = FE at *
        go_wp2_with fail
        refine (K124.out _).mono ?_
        rintro e' w5 ⟨rfl, rfl⟩
        go_wp2_with fail
        refine KF.out.mono ?_
        rintro e' w6 ⟨v6, rfl, hv6, hb6⟩
        obtain ⟨z0, z1, z2, z3, z4, zl, zn, zc, rfl⟩ := cells_re hv6
        have hP := HP4.out.below hb6 HP4.out.lt
        have hlt4 := HP4.out.lt
        have hb := hbw4.trans (hb6.mono hbw4.size)
        have HV := Lib.hid (show ReAt (New (w.heap.size + 1)) w6 _ FE.rx from hv6.imp fun b _ h => by
          rcases h with h | h
          · exact h
          · show w.heap.size + 1 ≤ b
            omega)
        clear hv6 hb6 q6 q7
        obtain ⟨p0, p1, p2, p3, p4, p5, p6, p7⟩ := hP.cells
        obtain ⟨f0, f1, f2, f3, f4, f5, f6, f7⟩ := hP.frozen
        go_wp2
        exact ret_p (hP.put _ _ _ _ _ _ _ _) Try.results16 rfl rfl (post_ok HR.out (by rw [hpos2]) (bel8 hb (Nat.le_refl _) _ _ _ _ _ _ _ _) (HV.out.put8 (Nat.lt_succ_self _) (Nat.le_succ _) _ _ _ _ _ _ _ _))
end Go.Proofs.Ytmkjcbgcikgglaa
/- quillref06's row, given atom. -/
namespace Go.Proofs.Ytmkjcbgcikgglaa
open Go.RowKit
/-- What append leaves: the row with one more. -/
theorem RowO.push' {B n : Nat} {w1 W w4 : World} {v v' : Value} {ps : List Ex} {e : Ex} {c0 c1 c2 c3 c4 c5 : Value} {xs : List Value} (hB : B < w1.heap.size) (hW : Below w1.heap.size w1 W) (hv : RowVals (Kd B v) w1 xs (ps.map Ex.rx)) (hlt : ∀ g, v.ownBlock = some g → B + 1 ≤ g ∧ g < w1.heap.size)
    (he : ReAt (Kd B v) w1 (.agg #[c0, c1, c2, c3, c4, c5]) e.rx) (hown : w4.ownsRow (B + 1) 28 6 v' (ps.length + 1) (xs ++ [c0, c1, c2, c3, c4, c5])) (hgrow : W.grownBy w4 v.ownBlock)
    (hat : v'.ownBlock = v.ownBlock ∨ v'.ownBlock = some n) (hn : w1.heap.size ≤ n) : RowO B w4 v' (ps ++ [e]) ∧ Below (B + 1) w1 w4 := by
  have hkept : Kept (Kd B v) (Kd B v') w1 w4 := by
    refine ⟨Nat.le_trans hW.size hgrow.size, fun b h1 h2 => ⟨⟨h2.1, ?_⟩, ?_⟩⟩
    · rcases hat with h | h
      · rw [h]; exact h2.2
      · rw [h]
        intro e
        have := Option.some.inj e
        omega
    · exact (hgrow.block b (Nat.lt_of_lt_of_le h1 hW.size) (fun e => h2.2 e.symm)).trans (hW.block b h1)
  refine ⟨⟨xs ++ [c0, c1, c2, c3, c4, c5], by simpa using hown, ?_⟩, ?_⟩
  · rw [List.map_append]
    exact (hv.go hkept).append ((RowVals.one he).go hkept)
  · exact (hW.mono (by omega)).grown hgrow (Nat.le_trans hB hW.size) fun g hg => (hlt g hg).1
/-- Not in the block of the part that is being read. -/
def Kp (B : Nat) (v : Value) (gp b : Nat) : Prop := Kd B v b ∧ b ≠ gp
/-- Behind some stars. -/
def stInv (s : ByteArray) (B : Nat) (v : Value) (gp k1 : Nat) (a : Ex) (l1 : List UInt8) (w3 : World) (vat : Value) (wr : World) : Prop := ∃ (k2 : Nat) (e : Ex) (y0 y1 y2 y3 y4 : Int) (yl : Option Addr) (yn yc : Nat), vat = .int .i64 k2 ∧ k1 ≤ k2 ∧ k2 ≤ s.size ∧ stars a l1 = stars e (tl s k2) ∧
  PB wr gp (.int .u8 y0) (.int .u64 y1) (.int .u64 y2) (.int .u64 y3) (.int .u64 y4) (.slice yl yn yc) (.int .i64 k1) (.bool false) ∧ ReAt (Kp B v gp) wr (.agg #[.int .u8 y0, .int .u64 y1, .int .u64 y2, .int .u64 y3, .int .u64 y4, .slice yl yn yc]) e.rx ∧ But gp w3.heap.size w3 wr
theorem PB.put6 {w : World} {g : Nat} {x0 x1 x2 x3 x4 x5 x6 x7 : Value} (h : PB w g x0 x1 x2 x3 x4 x5 x6 x7) (y0 y1 y2 y3 y4 y5 : Value) :
    PB ((((((w.setCell ⟨g, 0, none⟩ y0).setCell ⟨g, 1, none⟩ y1).setCell ⟨g, 2, none⟩ y2).setCell ⟨g, 3, none⟩ y3).setCell ⟨g, 4, none⟩ y4).setCell ⟨g, 5, none⟩ y5) g y0 y1 y2 y3 y4 y5 x6 x7 := by
  unfold PB at h ⊢
  simp [World.setCell, Array.getElem?_modify, h]
theorem ReAt.put6 {ok ok' : Nat → Prop} {w : World} {v : Value} {r : Rx} {g : Nat} (h : ReAt ok w v r) (hok : ∀ b, b < w.heap.size → ok b → ok' b ∧ b ≠ g) (y0 y1 y2 y3 y4 y5 : Value) :
    ReAt ok' ((((((w.setCell ⟨g, 0, none⟩ y0).setCell ⟨g, 1, none⟩ y1).setCell ⟨g, 2, none⟩ y2).setCell ⟨g, 3, none⟩ y3).setCell ⟨g, 4, none⟩ y4).setCell ⟨g, 5, none⟩ y5) v r := by
  refine h.go ⟨by simp [World.setCell], fun b h1 h2 => ⟨(hok b h1 h2).1, ?_⟩⟩
  have hne : g ≠ b := fun e => (hok b h1 h2).2 e.symm
  simp [World.setCell, Array.getElem?_modify, hne]
theorem But.put6 {g B : Nat} {w w' : World} (h : But g B w w') (y0 y1 y2 y3 y4 y5 : Value) : But g B w ((((((w'.setCell ⟨g, 0, none⟩ y0).setCell ⟨g, 1, none⟩ y1).setCell ⟨g, 2, none⟩ y2).setCell ⟨g, 3, none⟩ y3).setCell ⟨g, 4, none⟩ y4).setCell ⟨g, 5, none⟩ y5) :=
  (((((h.set 0 y0).set 1 y1).set 2 y2).set 3 y3).set 4 y4).set 5 y5
def rowInv (s : ByteArray) (i : Nat) (w : World) (vat vl : Value) (wr : World) : Prop := ∃ (k : Nat) (ps : List Ex), vat = .int .i64 k ∧ i ≤ k ∧ k ≤ s.size ∧ ps.length ≤ k ∧ PZ wr w.heap.size ∧ Below w.heap.size w wr ∧ RowO w.heap.size wr vl ps ∧ RowSt (tl s i) ps (tl s k)
theorem beg_cases (l : List UInt8) : begB l = (atB 46 l || atB 91 l || atB 40 l || begS l) := by
  cases l with
  | nil => rfl
  | cons c t => simp [begB, atB, begS, Bool.or_assoc]
theorem beg_none {l : List UInt8} (h : begB l = false) : atB 46 l = false ∧ atB 91 l = false ∧ atB 40 l = false ∧ begS l = false := by
  rw [beg_cases] at h
  simp only [Bool.or_eq_false_iff] at h
  exact ⟨h.1.1.1, h.1.1.2, h.1.2, h.2⟩
set_option maxHeartbeats 8000000 in
theorem row_any {s : ByteArray} {N : Nat} (hs : s.size ≤ 1000000000) (ih : AtomC s N) : RowC s N := by
  intro i hi hN w res hres
  obtain ⟨i0, hi0, hz0, hz1, hz2⟩ := info_parts infoR
  have hz2' := Lib.hid hz2
  have KI := Lib.hid fun (k : Nat) (c : UInt8) W => is_any s k c W
  have HRES := Lib.hid (fun r (h : PX .row (tl s i) r) => hres.det h)
  clear hres hz2
  go_enter Try.func22, Try.ntmps22
  go_wp2_with fail
  go_loopw [1, 5] (fun a l wr => rowInv s i w a l wr) (fun a _ _ => s.size + 1 - (intOf a).toNat)
  case atStart =>
    refine ⟨i, [], rfl, Nat.le_refl _, hi, Nat.zero_le _, ?_, ((Below.refl _ w).alloc (Nat.le_refl _) _).alloc (by simp) _, ?_, RowSt.start _⟩
    · exact (Below.heap_alloc _ _ _ (by simp)).trans (blk_new w _)
    · have := RowO.start (B := w.heap.size) (w := w.alloc (.cells #[.int .u8 0, .int .u64 0, .int .u64 0, .int .u64 0, .int .u64 0, .slice none 0 0, .int .i64 0, .bool false] 48)) (by simp)
      simpa using this
  case round =>
    obtain ⟨k, ps, rfl, hik, hk, hpl, hP, hb, hO, hst⟩ := hrel
    obtain ⟨al, cap, rfl, hcap, hrow⟩ := hO.row
    have HROW := Lib.hid hrow
    have HP := Lib.hid hP
    have HO := Lib.hid hO
    have HST := Lib.hid hst
    clear hO hst hP hrow
    have K46 := Lib.hid (fun W => show Calls Try.prog 23 #[.string s, .int .i64 k, .int .u8 46] W fun e w' => e = .returned (.bool (atB 46 (tl s k))) ∧ w' = W from KI.out k 46 W)
    have K91 := Lib.hid (fun W => show Calls Try.prog 23 #[.string s, .int .i64 k, .int .u8 91] W fun e w' => e = .returned (.bool (atB 91 (tl s k))) ∧ w' = W from KI.out k 91 W)
    have K40 := Lib.hid (fun W => show Calls Try.prog 23 #[.string s, .int .i64 k, .int .u8 40] W fun e w' => e = .returned (.bool (atB 40 (tl s k))) ∧ w' = W from KI.out k 40 W)
    have KBG := Lib.hid (fun W => begins_any s k W hs)
    have hbc := beg_cases (tl s k)
    by_cases hend : ps ≠ [] ∧ begB (tl s k) = false
    · obtain ⟨hne, hbf⟩ := hend
      have HR := Lib.hid (HRES.out _ (HST.out.2 hne hbf))
      obtain ⟨h46, h91, h40, hbs⟩ := beg_none hbf
      rw [h46] at K46
      rw [h91] at K91
      rw [h40] at K40
      rw [hbs] at KBG
      have hmap : (ps.map Ex.rx).length = ps.length := by simp
      have d0 : ((ps.length : Int) == 0) = false := by simpa using hne
      have KF := Lib.hid (fun W (h : RowAt (New (w.heap.size + 1)) W al (ps.map Ex.rx)) => refFold_any 4 2 (.inl ⟨rfl, rfl⟩) (ps.map Ex.rx) _ al cap W (by rw [hmap]; omega) (by rw [hmap]; omega) h)
      rw [hmap, ← fold_seq ps hne] at KF
      have hpos2 : s.size - (tl s k).length = k := by rw [tl_len]; omega
      clear hbc h46 h91 h40 hbs hbf hne HST
      generalize foldE Ex.seq ps = FE at *
      go_wp2_with fail
      refine (K46.out _).mono ?_
      rintro e' w1 ⟨rfl, rfl⟩
      go_wp2_with fail
      refine (K91.out _).mono ?_
      rintro e' w1 ⟨rfl, rfl⟩
      go_wp2_with fail
      refine (K40.out _).mono ?_
      rintro e' w1 ⟨rfl, rfl⟩
      go_wp2_with fail
      refine (KBG.out _).mono ?_
      rintro e' w5 ⟨rfl, hb5⟩
      have HROW5 := Lib.hid (HROW.out.below hb5)
      have hP5 := HP.out.below hb5 HP.out.lt
      have hbw5 := hb.trans (hb5.mono hb.size)
      clear hb5
      go_wp2_with fail
      refine (KF.out _ HROW5.out).mono ?_
      rintro e' w6 ⟨v6, rfl, hv6, hb6⟩
      obtain ⟨z0, z1, z2, z3, z4, zl, zn, zc, rfl⟩ := cells_re hv6
      have hlt5 := hP5.lt
      have hP := hP5.below hb6 hP5.lt
      replace hb := hbw5.trans (hb6.mono hbw5.size)
      have HV := Lib.hid (show ReAt (New (w.heap.size + 1)) w6 _ FE.rx from hv6.imp fun b _ h => by
        rcases h with h | h
        · exact h
        · show w.heap.size + 1 ≤ b
          omega)
      clear hv6 hb6
      obtain ⟨p0, p1, p2, p3, p4, p5, p6, p7⟩ := hP.cells
      obtain ⟨f0, f1, f2, f3, f4, f5, f6, f7⟩ := hP.frozen
      go_wp2
      exact ret_p (hP.put _ _ _ _ _ _ _ _) Try.results22 rfl rfl (post_ok HR.out (by rw [hpos2]) (bel8 hb (Nat.le_refl _) _ _ _ _ _ _ _ _) (HV.out.put8 (Nat.lt_succ_self _) (Nat.le_succ _) _ _ _ _ _ _ _ _))
    · have hgo : ps = [] ∨ begB (tl s k) = true := by
        by_cases h : ps = []
        · exact .inl h
        · exact .inr (by
            cases hbb : begB (tl s k) with
            | true => rfl
            | false => exact absurd ⟨h, hbb⟩ hend)
      obtain ⟨ra, hra⟩ := (PX.total _ (tl s k) (Nat.le_refl _)).1
      have KA := Lib.hid (fun W => ih k hk (by omega) W ra hra)
      have hfa := hra.fact
      have hplt := HP.out.lt
      have hcase : (ps = []) ∨ (ps ≠ [] ∧ atB 46 (tl s k) = true) ∨ (ps ≠ [] ∧ atB 46 (tl s k) = false ∧ atB 91 (tl s k) = true) ∨ (ps ≠ [] ∧ atB 46 (tl s k) = false ∧ atB 91 (tl s k) = false ∧ atB 40 (tl s k) = true) ∨ (ps ≠ [] ∧ atB 46 (tl s k) = false ∧ atB 91 (tl s k) = false ∧ atB 40 (tl s k) = false ∧ begS (tl s k) = true) := by
        by_cases h : ps = []
        · exact .inl h
        · right
          have hb1 : begB (tl s k) = true := by
            rcases hgo with h1 | h1
            · exact absurd h1 h
            · exact h1
          rw [hbc] at hb1
          cases h46 : atB 46 (tl s k) <;> cases h91 : atB 91 (tl s k) <;> cases h40 : atB 40 (tl s k) <;> cases hbs : begS (tl s k) <;> simp_all
      cases ra with
      | bad r =>
        have HR := Lib.hid (HRES.out _ (HST.out.bad hgo hra))
        clear hra hfa hgo hend hbc HST
        rcases hcase with hc | ⟨hc, h46⟩ | ⟨hc, h46, h91⟩ | ⟨hc, h46, h91, h40⟩ | ⟨hc, h46, h91, h40, hbs⟩
        · have d0 : ((ps.length : Int) == 0) = true := by rw [hc]; rfl
          have hb1 := Lib.hid (Below.refl wr.heap.size wr)
          go_wp2_with fail
          refine (KA.out _).mono ?_
          rintro e' w2 hpp
          obtain ⟨y0, y1, y2, y3, y4, yl, yn, yc, rfl, hb2⟩ := hpp.bad
          have hbr := hb1.out.trans (hb2.mono hb1.out.size)
          have hP := HP.out.below hbr HP.out.lt
          have hbw := hb.trans (hbr.mono hb.size)
          clear hpp hb2 hbr
          obtain ⟨p0, p1, p2, p3, p4, p5, p6, p7⟩ := hP.cells
          obtain ⟨f0, f1, f2, f3, f4, f5, f6, f7⟩ := hP.frozen
          have hplt2 := hP.lt
          go_wp2
          exact ret_p ((hP.put _ _ _ _ _ _ _ _).alloc _) Try.results22 rfl rfl (post_bad HR.out rfl (bel_a (bel8 hbw (Nat.le_refl _) _ _ _ _ _ _ _ _) (Nat.le_refl _) _))
        · have d0 : ((ps.length : Int) == 0) = false := by simpa using hc
          rw [h46] at K46
          have hb1 := Lib.hid (Below.refl wr.heap.size wr)
          go_wp2_with fail
          refine (K46.out _).mono ?_
          rintro e' w1 ⟨rfl, hw⟩
          replace hw := hw.symm
          subst hw
          go_wp2_with fail
          refine (KA.out _).mono ?_
          rintro e' w2 hpp
          obtain ⟨y0, y1, y2, y3, y4, yl, yn, yc, rfl, hb2⟩ := hpp.bad
          have hbr := hb1.out.trans (hb2.mono hb1.out.size)
          have hP := HP.out.below hbr HP.out.lt
          have hbw := hb.trans (hbr.mono hb.size)
          clear hpp hb2 hbr
          obtain ⟨p0, p1, p2, p3, p4, p5, p6, p7⟩ := hP.cells
          obtain ⟨f0, f1, f2, f3, f4, f5, f6, f7⟩ := hP.frozen
          have hplt2 := hP.lt
          go_wp2
          exact ret_p ((hP.put _ _ _ _ _ _ _ _).alloc _) Try.results22 rfl rfl (post_bad HR.out rfl (bel_a (bel8 hbw (Nat.le_refl _) _ _ _ _ _ _ _ _) (Nat.le_refl _) _))
        · have d0 : ((ps.length : Int) == 0) = false := by simpa using hc
          rw [h46] at K46
          rw [h91] at K91
          have hb1 := Lib.hid (Below.refl wr.heap.size wr)
          go_wp2_with fail
          refine (K46.out _).mono ?_
          rintro e' w1 ⟨rfl, hw⟩
          replace hw := hw.symm
          subst hw
          go_wp2_with fail
          refine (K91.out _).mono ?_
          rintro e' w1 ⟨rfl, hw⟩
          replace hw := hw.symm
          subst hw
          go_wp2_with fail
          refine (KA.out _).mono ?_
          rintro e' w2 hpp
          obtain ⟨y0, y1, y2, y3, y4, yl, yn, yc, rfl, hb2⟩ := hpp.bad
          have hbr := hb1.out.trans (hb2.mono hb1.out.size)
          have hP := HP.out.below hbr HP.out.lt
          have hbw := hb.trans (hbr.mono hb.size)
          clear hpp hb2 hbr
          obtain ⟨p0, p1, p2, p3, p4, p5, p6, p7⟩ := hP.cells
          obtain ⟨f0, f1, f2, f3, f4, f5, f6, f7⟩ := hP.frozen
          have hplt2 := hP.lt
          go_wp2
          exact ret_p ((hP.put _ _ _ _ _ _ _ _).alloc _) Try.results22 rfl rfl (post_bad HR.out rfl (bel_a (bel8 hbw (Nat.le_refl _) _ _ _ _ _ _ _ _) (Nat.le_refl _) _))
        · have d0 : ((ps.length : Int) == 0) = false := by simpa using hc
          rw [h46] at K46
          rw [h91] at K91
          rw [h40] at K40
          have hb1 := Lib.hid (Below.refl wr.heap.size wr)
          go_wp2_with fail
          refine (K46.out _).mono ?_
          rintro e' w1 ⟨rfl, hw⟩
          replace hw := hw.symm
          subst hw
          go_wp2_with fail
          refine (K91.out _).mono ?_
          rintro e' w1 ⟨rfl, hw⟩
          replace hw := hw.symm
          subst hw
          go_wp2_with fail
          refine (K40.out _).mono ?_
          rintro e' w1 ⟨rfl, hw⟩
          replace hw := hw.symm
          subst hw
          go_wp2_with fail
          refine (KA.out _).mono ?_
          rintro e' w2 hpp
          obtain ⟨y0, y1, y2, y3, y4, yl, yn, yc, rfl, hb2⟩ := hpp.bad
          have hbr := hb1.out.trans (hb2.mono hb1.out.size)
          have hP := HP.out.below hbr HP.out.lt
          have hbw := hb.trans (hbr.mono hb.size)
          clear hpp hb2 hbr
          obtain ⟨p0, p1, p2, p3, p4, p5, p6, p7⟩ := hP.cells
          obtain ⟨f0, f1, f2, f3, f4, f5, f6, f7⟩ := hP.frozen
          have hplt2 := hP.lt
          go_wp2
          exact ret_p ((hP.put _ _ _ _ _ _ _ _).alloc _) Try.results22 rfl rfl (post_bad HR.out rfl (bel_a (bel8 hbw (Nat.le_refl _) _ _ _ _ _ _ _ _) (Nat.le_refl _) _))
        · have d0 : ((ps.length : Int) == 0) = false := by simpa using hc
          rw [h46] at K46
          rw [h91] at K91
          rw [h40] at K40
          rw [hbs] at KBG
          go_wp2_with fail
          refine (K46.out _).mono ?_
          rintro e' w1 ⟨rfl, hw⟩
          replace hw := hw.symm
          subst hw
          go_wp2_with fail
          refine (K91.out _).mono ?_
          rintro e' w1 ⟨rfl, hw⟩
          replace hw := hw.symm
          subst hw
          go_wp2_with fail
          refine (K40.out _).mono ?_
          rintro e' w1 ⟨rfl, hw⟩
          replace hw := hw.symm
          subst hw
          go_wp2_with fail
          refine (KBG.out _).mono ?_
          rintro e' w9 ⟨rfl, hb9⟩
          have hb1 := Lib.hid hb9
          clear hb9
          go_wp2_with fail
          refine (KA.out _).mono ?_
          rintro e' w2 hpp
          obtain ⟨y0, y1, y2, y3, y4, yl, yn, yc, rfl, hb2⟩ := hpp.bad
          have hbr := hb1.out.trans (hb2.mono hb1.out.size)
          have hP := HP.out.below hbr HP.out.lt
          have hbw := hb.trans (hbr.mono hb.size)
          clear hpp hb2 hbr
          obtain ⟨p0, p1, p2, p3, p4, p5, p6, p7⟩ := hP.cells
          obtain ⟨f0, f1, f2, f3, f4, f5, f6, f7⟩ := hP.frozen
          have hplt2 := hP.lt
          go_wp2
          exact ret_p ((hP.put _ _ _ _ _ _ _ _).alloc _) Try.results22 rfl rfl (post_bad HR.out rfl (bel_a (bel8 hbw (Nat.le_refl _) _ _ _ _ _ _ _ _) (Nat.le_refl _) _))
      | ok a l1 =>
        obtain ⟨_, hsuf, hll, _⟩ := hfa
        rw [tl_len] at hll
        obtain ⟨k1, hk1, hpos1, hl1, hln1⟩ := left_pos hsuf hk
        have HSTP := Lib.hid (fun p l2 (h : stars a l1 = (p, l2)) => HST.out.step hgo hra h)
        clear hra hgo hend hbc HST hsuf
        rcases hcase with hc | ⟨hc, h46⟩ | ⟨hc, h46, h91⟩ | ⟨hc, h46, h91, h40⟩ | ⟨hc, h46, h91, h40, hbs⟩
        · have d0 : ((ps.length : Int) == 0) = true := by rw [hc]; rfl
          clear hc
          have hb1 := Lib.hid (Below.refl wr.heap.size wr)
          go_wp2_with fail
          refine (KA.out _).mono ?_
          rintro e' w2 hpp
          obtain ⟨y0, y1, y2, y3, y4, yl, yn, yc, rfl, hv, hb2⟩ := hpp.ok
          rw [hpos1]
          have hbr := hb1.out.trans (hb2.mono hb1.out.size)
          have HV := Lib.hid (show ReAt (Kp w.heap.size (.slice al ps.length cap) w2.heap.size) w2 (.agg #[.int .u8 y0, .int .u64 y1, .int .u64 y2, .int .u64 y3, .int .u64 y4, .slice yl yn yc]) a.rx from hv.imp fun b hlt h => by
            have h1 : wr.heap.size ≤ b := Nat.le_trans hb1.out.size h
            exact ⟨⟨by omega, fun e => by have := (HO.out.lt e).2; omega⟩, by omega⟩)
          have HO2 := Lib.hid (HO.out.below hbr)
          have HP2 := Lib.hid (HP.out.below hbr HP.out.lt)
          have HBW := Lib.hid (hb.trans (hbr.mono hb.size))
          have hpl2 := HP2.out.lt
          clear hpp hb2 hbr hv hb1 hb hplt HP HO HROW
          go_wp2_with fail
          go_loopw [1] (fun v wx => stInv s w.heap.size (.slice al ps.length cap) w2.heap.size k1 a l1 (w2.alloc (.cells #[.int .u8 y0, .int .u64 y1, .int .u64 y2, .int .u64 y3, .int .u64 y4, .slice yl yn yc, .int .i64 k1, .bool false] 48)) v wx) (fun v _ => s.size + 1 - (intOf v).toNat)
          case atStart => exact ⟨k1, a, y0, y1, y2, y3, y4, yl, yn, yc, rfl, Nat.le_refl _, hk1, by rw [hl1], blk_new w2 _, HV.out.alloc _, But.refl _ _ _⟩
          case round =>
            obtain ⟨k2, ex, z0, z1, z2, z3, z4, zl, zn, zc, rfl, hk12, hk2, hstar, hPB, hre, hbut⟩ := hrel
            have hbx : Below w2.heap.size w2 wr := ((Below.refl _ w2).alloc (Nat.le_refl _) _).trans ((hbut.mono (by simp)).below (Nat.le_refl _))
            have hszx : w2.heap.size + 1 ≤ wr.heap.size := by have := hbut.size; simpa using this
            have HPB := Lib.hid hPB
            have HRE := Lib.hid hre
            have HBUT := Lib.hid hbut
            have HSTAR := Lib.hid hstar
            have hlow : ∀ g, (Value.slice al ps.length cap).ownBlock = some g → w.heap.size + 1 ≤ g ∧ g < w2.heap.size := fun g hg => HO2.out.lt hg
            have HLOW := Lib.hid hlow
            have K42 := Lib.hid (show Calls Try.prog 23 #[.string s, .int .i64 k2, .int .u8 42] wr fun e w' => e = .returned (.bool (atB 42 (tl s k2))) ∧ w' = wr from KI.out k2 42 wr)
            have wk2 : IntKind.i64.wrap ((k2 : Int) + 1) = (k2 : Int) + 1 := by rw [IntKind.wrap_i64]; omega
            obtain ⟨q0, q1, q2, q3, q4, q5, q6, q7⟩ := hPB.cells
            clear hPB hre hbut hstar hlow
            cases h42 : atB 42 (tl s k2) with
            | true =>
              rw [h42] at K42
              obtain ⟨t, ht⟩ := atB_yes h42
              obtain ⟨hlt2, htl, _⟩ := pos_cons ht hk2
              have HS2 := Lib.hid (show stars a l1 = stars (.star ex) (tl s (k2 + 1)) from by rw [HSTAR.out, ht, htl]; rfl)
              have KM := Lib.hid (many_any ex.rx _ wr HRE.out)
              clear h42 ht htl HSTAR
              go_wp2_with fail
              refine K42.out.mono ?_
              rintro e' w5 ⟨rfl, hw⟩
              replace hw := hw.symm
              subst hw
              go_wp2_with fail
              refine KM.out.mono ?_
              rintro e' w6 ⟨v6, rfl, hv6, hb6⟩
              obtain ⟨x0, x1, x2, x3, x4, xl, xn, xc, rfl⟩ := cells_re hv6
              have hP6 := HPB.out.below hb6 HPB.out.lt
              obtain ⟨p0, p1, p2, p3, p4, p5, p6, p7⟩ := hP6.cells
              obtain ⟨f0, f1, f2, f3, f4, f5, f6, f7⟩ := hP6.frozen
              have HV6 := Lib.hid hv6
              have HB6 := Lib.hid hb6
              clear hv6 hb6 q0 q1 q2 q3 q4 q5 q6 q7
              go_wp2
              refine ⟨⟨k2 + 1, .star ex, x0, x1, x2, x3, x4, xl, xn, xc, by go_num, by omega, by omega, HS2.out, hP6.put6 _ _ _ _ _ _, HV6.out.put6 (fun b _ h => ?_) _ _ _ _ _ _, (HBUT.out.trans ((But.of HB6.out).mono (by simpa using hszx))).put6 _ _ _ _ _ _⟩, by simp [intOf]; omega⟩
              rcases h with h | h
              · exact ⟨h, h.2⟩
              · have h1 : w2.heap.size < b := by omega
                exact ⟨⟨⟨by omega, fun e => by have := (HLOW.out _ e).2; omega⟩, by omega⟩, by omega⟩
            | false =>
              rw [h42] at K42
              have hns : NoStar (tl s k2) := atB_no h42
              have HST2 := Lib.hid (HSTP.out ex (tl s k2) (by rw [HSTAR.out]; exact stars_no hns ex))
              have HO3 := HO2.out.below hbx
              obtain ⟨xs, hown3, hvals3⟩ := HO3
              have HOWN := Lib.hid hown3
              have HVAL := Lib.hid hvals3
              have HRE' := Lib.hid (HRE.out.imp (ok' := Kd w.heap.size (.slice al ps.length cap)) fun _ _ h => h.1)
              have hL3 : ∀ g, (Value.slice al ps.length cap).ownBlock = some g → w.heap.size + 1 ≤ g ∧ g < wr.heap.size := fun g hg => ⟨(HLOW.out g hg).1, by have := (HLOW.out g hg).2; omega⟩
              have HL3 := Lib.hid hL3
              have HBX := Lib.hid hbx
              clear h42 hns hown3 hvals3 hL3 hbx
              go_wp2_with fail
              refine K42.out.mono ?_
              rintro e' w5 ⟨rfl, hw⟩
              replace hw := hw.symm
              subst hw
              go_wp2_with (at_builtin; refine wpList_append_at rfl _ _ 26 rfl (w.heap.size + 1) 28 i0 _ 6 64 Try.underlying26 hi0 hz0 hz1 hz2'.out rfl (by decide) _ _ _ rfl (HOWN.out.alloc _) ⟨wr.heap.size, 0, none⟩ 1 1 [.int .u8 z0, .int .u64 z1, .int .u64 z2, .int .u64 z3, .int .u64 z4, .slice zl zn zc] rfl rfl ?c1 ?c2 ?c3 ?c4 ?c5 (by decide) ?_)
              case c1 => exact six_at _ rfl _ _ _ _ _ _
              case c2 => intro u hu; simp at hu; rcases hu with rfl | rfl | rfl | rfl | rfl | rfl <;> rfl
              case c3 => unfold maxLen; omega
              case c4 => omega
              case c5 => simp; omega
              intro v' w4 hown' hgrow hat
              obtain ⟨hO4, hb4⟩ := RowO.push' (B := w.heap.size) (by omega) ((Below.refl _ wr).alloc (Nat.le_refl _) _) HVAL.out HL3.out HRE'.out hown' hgrow hat (by simp)
              have HO4 := Lib.hid hO4
              have hbx4 : Below w.heap.size w w4 := (HBW.out.trans (HBX.out.mono HBW.out.size)).trans (hb4.mono (by omega))
              have HP4 := Lib.hid ((HP2.out.below HBX.out HP2.out.lt).below hb4 (by omega))
              have HBX4 := Lib.hid hbx4
              clear hO4 hown' hgrow hat hb4 hbx4
              go_wp2
              exact ⟨⟨k2, ps ++ [ex], rfl, by omega, hk2, by simp; omega, HP4.out, HBX4.out, HO4.out, HST2.out⟩, by simp [intOf]; omega⟩
        · have d0 : ((ps.length : Int) == 0) = false := by simpa using hc
          clear hc
          rw [h46] at K46
          have hb1 := Lib.hid (Below.refl wr.heap.size wr)
          go_wp2_with fail
          refine (K46.out _).mono ?_
          rintro e' w1 ⟨rfl, hw⟩
          replace hw := hw.symm
          subst hw
          go_wp2_with fail
          refine (KA.out _).mono ?_
          rintro e' w2 hpp
          obtain ⟨y0, y1, y2, y3, y4, yl, yn, yc, rfl, hv, hb2⟩ := hpp.ok
          rw [hpos1]
          have hbr := hb1.out.trans (hb2.mono hb1.out.size)
          have HV := Lib.hid (show ReAt (Kp w.heap.size (.slice al ps.length cap) w2.heap.size) w2 (.agg #[.int .u8 y0, .int .u64 y1, .int .u64 y2, .int .u64 y3, .int .u64 y4, .slice yl yn yc]) a.rx from hv.imp fun b hlt h => by
            have h1 : wr.heap.size ≤ b := Nat.le_trans hb1.out.size h
            exact ⟨⟨by omega, fun e => by have := (HO.out.lt e).2; omega⟩, by omega⟩)
          have HO2 := Lib.hid (HO.out.below hbr)
          have HP2 := Lib.hid (HP.out.below hbr HP.out.lt)
          have HBW := Lib.hid (hb.trans (hbr.mono hb.size))
          have hpl2 := HP2.out.lt
          clear hpp hb2 hbr hv hb1 hb hplt HP HO HROW
          go_wp2_with fail
          go_loopw [1] (fun v wx => stInv s w.heap.size (.slice al ps.length cap) w2.heap.size k1 a l1 (w2.alloc (.cells #[.int .u8 y0, .int .u64 y1, .int .u64 y2, .int .u64 y3, .int .u64 y4, .slice yl yn yc, .int .i64 k1, .bool false] 48)) v wx) (fun v _ => s.size + 1 - (intOf v).toNat)
          case atStart => exact ⟨k1, a, y0, y1, y2, y3, y4, yl, yn, yc, rfl, Nat.le_refl _, hk1, by rw [hl1], blk_new w2 _, HV.out.alloc _, But.refl _ _ _⟩
          case round =>
            obtain ⟨k2, ex, z0, z1, z2, z3, z4, zl, zn, zc, rfl, hk12, hk2, hstar, hPB, hre, hbut⟩ := hrel
            have hbx : Below w2.heap.size w2 wr := ((Below.refl _ w2).alloc (Nat.le_refl _) _).trans ((hbut.mono (by simp)).below (Nat.le_refl _))
            have hszx : w2.heap.size + 1 ≤ wr.heap.size := by have := hbut.size; simpa using this
            have HPB := Lib.hid hPB
            have HRE := Lib.hid hre
            have HBUT := Lib.hid hbut
            have HSTAR := Lib.hid hstar
            have hlow : ∀ g, (Value.slice al ps.length cap).ownBlock = some g → w.heap.size + 1 ≤ g ∧ g < w2.heap.size := fun g hg => HO2.out.lt hg
            have HLOW := Lib.hid hlow
            have K42 := Lib.hid (show Calls Try.prog 23 #[.string s, .int .i64 k2, .int .u8 42] wr fun e w' => e = .returned (.bool (atB 42 (tl s k2))) ∧ w' = wr from KI.out k2 42 wr)
            have wk2 : IntKind.i64.wrap ((k2 : Int) + 1) = (k2 : Int) + 1 := by rw [IntKind.wrap_i64]; omega
            obtain ⟨q0, q1, q2, q3, q4, q5, q6, q7⟩ := hPB.cells
            clear hPB hre hbut hstar hlow
            cases h42 : atB 42 (tl s k2) with
            | true =>
              rw [h42] at K42
              obtain ⟨t, ht⟩ := atB_yes h42
              obtain ⟨hlt2, htl, _⟩ := pos_cons ht hk2
              have HS2 := Lib.hid (show stars a l1 = stars (.star ex) (tl s (k2 + 1)) from by rw [HSTAR.out, ht, htl]; rfl)
              have KM := Lib.hid (many_any ex.rx _ wr HRE.out)
              clear h42 ht htl HSTAR
              go_wp2_with fail
              refine K42.out.mono ?_
              rintro e' w5 ⟨rfl, hw⟩
              replace hw := hw.symm
              subst hw
              go_wp2_with fail
              refine KM.out.mono ?_
              rintro e' w6 ⟨v6, rfl, hv6, hb6⟩
              obtain ⟨x0, x1, x2, x3, x4, xl, xn, xc, rfl⟩ := cells_re hv6
              have hP6 := HPB.out.below hb6 HPB.out.lt
              obtain ⟨p0, p1, p2, p3, p4, p5, p6, p7⟩ := hP6.cells
              obtain ⟨f0, f1, f2, f3, f4, f5, f6, f7⟩ := hP6.frozen
              have HV6 := Lib.hid hv6
              have HB6 := Lib.hid hb6
              clear hv6 hb6 q0 q1 q2 q3 q4 q5 q6 q7
              go_wp2
              refine ⟨⟨k2 + 1, .star ex, x0, x1, x2, x3, x4, xl, xn, xc, by go_num, by omega, by omega, HS2.out, hP6.put6 _ _ _ _ _ _, HV6.out.put6 (fun b _ h => ?_) _ _ _ _ _ _, (HBUT.out.trans ((But.of HB6.out).mono (by simpa using hszx))).put6 _ _ _ _ _ _⟩, by simp [intOf]; omega⟩
              rcases h with h | h
              · exact ⟨h, h.2⟩
              · have h1 : w2.heap.size < b := by omega
                exact ⟨⟨⟨by omega, fun e => by have := (HLOW.out _ e).2; omega⟩, by omega⟩, by omega⟩
            | false =>
              rw [h42] at K42
              have hns : NoStar (tl s k2) := atB_no h42
              have HST2 := Lib.hid (HSTP.out ex (tl s k2) (by rw [HSTAR.out]; exact stars_no hns ex))
              have HO3 := HO2.out.below hbx
              obtain ⟨xs, hown3, hvals3⟩ := HO3
              have HOWN := Lib.hid hown3
              have HVAL := Lib.hid hvals3
              have HRE' := Lib.hid (HRE.out.imp (ok' := Kd w.heap.size (.slice al ps.length cap)) fun _ _ h => h.1)
              have hL3 : ∀ g, (Value.slice al ps.length cap).ownBlock = some g → w.heap.size + 1 ≤ g ∧ g < wr.heap.size := fun g hg => ⟨(HLOW.out g hg).1, by have := (HLOW.out g hg).2; omega⟩
              have HL3 := Lib.hid hL3
              have HBX := Lib.hid hbx
              clear h42 hns hown3 hvals3 hL3 hbx
              go_wp2_with fail
              refine K42.out.mono ?_
              rintro e' w5 ⟨rfl, hw⟩
              replace hw := hw.symm
              subst hw
              go_wp2_with (at_builtin; refine wpList_append_at rfl _ _ 26 rfl (w.heap.size + 1) 28 i0 _ 6 64 Try.underlying26 hi0 hz0 hz1 hz2'.out rfl (by decide) _ _ _ rfl (HOWN.out.alloc _) ⟨wr.heap.size, 0, none⟩ 1 1 [.int .u8 z0, .int .u64 z1, .int .u64 z2, .int .u64 z3, .int .u64 z4, .slice zl zn zc] rfl rfl ?c1 ?c2 ?c3 ?c4 ?c5 (by decide) ?_)
              case c1 => exact six_at _ rfl _ _ _ _ _ _
              case c2 => intro u hu; simp at hu; rcases hu with rfl | rfl | rfl | rfl | rfl | rfl <;> rfl
              case c3 => unfold maxLen; omega
              case c4 => omega
              case c5 => simp; omega
              intro v' w4 hown' hgrow hat
              obtain ⟨hO4, hb4⟩ := RowO.push' (B := w.heap.size) (by omega) ((Below.refl _ wr).alloc (Nat.le_refl _) _) HVAL.out HL3.out HRE'.out hown' hgrow hat (by simp)
              have HO4 := Lib.hid hO4
              have hbx4 : Below w.heap.size w w4 := (HBW.out.trans (HBX.out.mono HBW.out.size)).trans (hb4.mono (by omega))
              have HP4 := Lib.hid ((HP2.out.below HBX.out HP2.out.lt).below hb4 (by omega))
              have HBX4 := Lib.hid hbx4
              clear hO4 hown' hgrow hat hb4 hbx4
              go_wp2
              exact ⟨⟨k2, ps ++ [ex], rfl, by omega, hk2, by simp; omega, HP4.out, HBX4.out, HO4.out, HST2.out⟩, by simp [intOf]; omega⟩
        · have d0 : ((ps.length : Int) == 0) = false := by simpa using hc
          clear hc
          rw [h46] at K46
          rw [h91] at K91
          have hb1 := Lib.hid (Below.refl wr.heap.size wr)
          go_wp2_with fail
          refine (K46.out _).mono ?_
          rintro e' w1 ⟨rfl, hw⟩
          replace hw := hw.symm
          subst hw
          go_wp2_with fail
          refine (K91.out _).mono ?_
          rintro e' w1 ⟨rfl, hw⟩
          replace hw := hw.symm
          subst hw
          go_wp2_with fail
          refine (KA.out _).mono ?_
          rintro e' w2 hpp
          obtain ⟨y0, y1, y2, y3, y4, yl, yn, yc, rfl, hv, hb2⟩ := hpp.ok
          rw [hpos1]
          have hbr := hb1.out.trans (hb2.mono hb1.out.size)
          have HV := Lib.hid (show ReAt (Kp w.heap.size (.slice al ps.length cap) w2.heap.size) w2 (.agg #[.int .u8 y0, .int .u64 y1, .int .u64 y2, .int .u64 y3, .int .u64 y4, .slice yl yn yc]) a.rx from hv.imp fun b hlt h => by
            have h1 : wr.heap.size ≤ b := Nat.le_trans hb1.out.size h
            exact ⟨⟨by omega, fun e => by have := (HO.out.lt e).2; omega⟩, by omega⟩)
          have HO2 := Lib.hid (HO.out.below hbr)
          have HP2 := Lib.hid (HP.out.below hbr HP.out.lt)
          have HBW := Lib.hid (hb.trans (hbr.mono hb.size))
          have hpl2 := HP2.out.lt
          clear hpp hb2 hbr hv hb1 hb hplt HP HO HROW
          go_wp2_with fail
          go_loopw [1] (fun v wx => stInv s w.heap.size (.slice al ps.length cap) w2.heap.size k1 a l1 (w2.alloc (.cells #[.int .u8 y0, .int .u64 y1, .int .u64 y2, .int .u64 y3, .int .u64 y4, .slice yl yn yc, .int .i64 k1, .bool false] 48)) v wx) (fun v _ => s.size + 1 - (intOf v).toNat)
          case atStart => exact ⟨k1, a, y0, y1, y2, y3, y4, yl, yn, yc, rfl, Nat.le_refl _, hk1, by rw [hl1], blk_new w2 _, HV.out.alloc _, But.refl _ _ _⟩
          case round =>
            obtain ⟨k2, ex, z0, z1, z2, z3, z4, zl, zn, zc, rfl, hk12, hk2, hstar, hPB, hre, hbut⟩ := hrel
            have hbx : Below w2.heap.size w2 wr := ((Below.refl _ w2).alloc (Nat.le_refl _) _).trans ((hbut.mono (by simp)).below (Nat.le_refl _))
            have hszx : w2.heap.size + 1 ≤ wr.heap.size := by have := hbut.size; simpa using this
            have HPB := Lib.hid hPB
            have HRE := Lib.hid hre
            have HBUT := Lib.hid hbut
            have HSTAR := Lib.hid hstar
            have hlow : ∀ g, (Value.slice al ps.length cap).ownBlock = some g → w.heap.size + 1 ≤ g ∧ g < w2.heap.size := fun g hg => HO2.out.lt hg
            have HLOW := Lib.hid hlow
            have K42 := Lib.hid (show Calls Try.prog 23 #[.string s, .int .i64 k2, .int .u8 42] wr fun e w' => e = .returned (.bool (atB 42 (tl s k2))) ∧ w' = wr from KI.out k2 42 wr)
            have wk2 : IntKind.i64.wrap ((k2 : Int) + 1) = (k2 : Int) + 1 := by rw [IntKind.wrap_i64]; omega
            obtain ⟨q0, q1, q2, q3, q4, q5, q6, q7⟩ := hPB.cells
            clear hPB hre hbut hstar hlow
            cases h42 : atB 42 (tl s k2) with
            | true =>
              rw [h42] at K42
              obtain ⟨t, ht⟩ := atB_yes h42
              obtain ⟨hlt2, htl, _⟩ := pos_cons ht hk2
              have HS2 := Lib.hid (show stars a l1 = stars (.star ex) (tl s (k2 + 1)) from by rw [HSTAR.out, ht, htl]; rfl)
              have KM := Lib.hid (many_any ex.rx _ wr HRE.out)
              clear h42 ht htl HSTAR
              go_wp2_with fail
              refine K42.out.mono ?_
              rintro e' w5 ⟨rfl, hw⟩
              replace hw := hw.symm
              subst hw
              go_wp2_with fail
              refine KM.out.mono ?_
              rintro e' w6 ⟨v6, rfl, hv6, hb6⟩
              obtain ⟨x0, x1, x2, x3, x4, xl, xn, xc, rfl⟩ := cells_re hv6
              have hP6 := HPB.out.below hb6 HPB.out.lt
              obtain ⟨p0, p1, p2, p3, p4, p5, p6, p7⟩ := hP6.cells
              obtain ⟨f0, f1, f2, f3, f4, f5, f6, f7⟩ := hP6.frozen
              have HV6 := Lib.hid hv6
              have HB6 := Lib.hid hb6
              clear hv6 hb6 q0 q1 q2 q3 q4 q5 q6 q7
              go_wp2
              refine ⟨⟨k2 + 1, .star ex, x0, x1, x2, x3, x4, xl, xn, xc, by go_num, by omega, by omega, HS2.out, hP6.put6 _ _ _ _ _ _, HV6.out.put6 (fun b _ h => ?_) _ _ _ _ _ _, (HBUT.out.trans ((But.of HB6.out).mono (by simpa using hszx))).put6 _ _ _ _ _ _⟩, by simp [intOf]; omega⟩
              rcases h with h | h
              · exact ⟨h, h.2⟩
              · have h1 : w2.heap.size < b := by omega
                exact ⟨⟨⟨by omega, fun e => by have := (HLOW.out _ e).2; omega⟩, by omega⟩, by omega⟩
            | false =>
              rw [h42] at K42
              have hns : NoStar (tl s k2) := atB_no h42
              have HST2 := Lib.hid (HSTP.out ex (tl s k2) (by rw [HSTAR.out]; exact stars_no hns ex))
              have HO3 := HO2.out.below hbx
              obtain ⟨xs, hown3, hvals3⟩ := HO3
              have HOWN := Lib.hid hown3
              have HVAL := Lib.hid hvals3
              have HRE' := Lib.hid (HRE.out.imp (ok' := Kd w.heap.size (.slice al ps.length cap)) fun _ _ h => h.1)
              have hL3 : ∀ g, (Value.slice al ps.length cap).ownBlock = some g → w.heap.size + 1 ≤ g ∧ g < wr.heap.size := fun g hg => ⟨(HLOW.out g hg).1, by have := (HLOW.out g hg).2; omega⟩
              have HL3 := Lib.hid hL3
              have HBX := Lib.hid hbx
              clear h42 hns hown3 hvals3 hL3 hbx
              go_wp2_with fail
              refine K42.out.mono ?_
              rintro e' w5 ⟨rfl, hw⟩
              replace hw := hw.symm
              subst hw
              go_wp2_with (at_builtin; refine wpList_append_at rfl _ _ 26 rfl (w.heap.size + 1) 28 i0 _ 6 64 Try.underlying26 hi0 hz0 hz1 hz2'.out rfl (by decide) _ _ _ rfl (HOWN.out.alloc _) ⟨wr.heap.size, 0, none⟩ 1 1 [.int .u8 z0, .int .u64 z1, .int .u64 z2, .int .u64 z3, .int .u64 z4, .slice zl zn zc] rfl rfl ?c1 ?c2 ?c3 ?c4 ?c5 (by decide) ?_)
              case c1 => exact six_at _ rfl _ _ _ _ _ _
              case c2 => intro u hu; simp at hu; rcases hu with rfl | rfl | rfl | rfl | rfl | rfl <;> rfl
              case c3 => unfold maxLen; omega
              case c4 => omega
              case c5 => simp; omega
              intro v' w4 hown' hgrow hat
              obtain ⟨hO4, hb4⟩ := RowO.push' (B := w.heap.size) (by omega) ((Below.refl _ wr).alloc (Nat.le_refl _) _) HVAL.out HL3.out HRE'.out hown' hgrow hat (by simp)
              have HO4 := Lib.hid hO4
              have hbx4 : Below w.heap.size w w4 := (HBW.out.trans (HBX.out.mono HBW.out.size)).trans (hb4.mono (by omega))
              have HP4 := Lib.hid ((HP2.out.below HBX.out HP2.out.lt).below hb4 (by omega))
              have HBX4 := Lib.hid hbx4
              clear hO4 hown' hgrow hat hb4 hbx4
              go_wp2
              exact ⟨⟨k2, ps ++ [ex], rfl, by omega, hk2, by simp; omega, HP4.out, HBX4.out, HO4.out, HST2.out⟩, by simp [intOf]; omega⟩
        · have d0 : ((ps.length : Int) == 0) = false := by simpa using hc
          clear hc
          rw [h46] at K46
          rw [h91] at K91
          rw [h40] at K40
          have hb1 := Lib.hid (Below.refl wr.heap.size wr)
          go_wp2_with fail
          refine (K46.out _).mono ?_
          rintro e' w1 ⟨rfl, hw⟩
          replace hw := hw.symm
          subst hw
          go_wp2_with fail
          refine (K91.out _).mono ?_
          rintro e' w1 ⟨rfl, hw⟩
          replace hw := hw.symm
          subst hw
          go_wp2_with fail
          refine (K40.out _).mono ?_
          rintro e' w1 ⟨rfl, hw⟩
          replace hw := hw.symm
          subst hw
          go_wp2_with fail
          refine (KA.out _).mono ?_
          rintro e' w2 hpp
          obtain ⟨y0, y1, y2, y3, y4, yl, yn, yc, rfl, hv, hb2⟩ := hpp.ok
          rw [hpos1]
          have hbr := hb1.out.trans (hb2.mono hb1.out.size)
          have HV := Lib.hid (show ReAt (Kp w.heap.size (.slice al ps.length cap) w2.heap.size) w2 (.agg #[.int .u8 y0, .int .u64 y1, .int .u64 y2, .int .u64 y3, .int .u64 y4, .slice yl yn yc]) a.rx from hv.imp fun b hlt h => by
            have h1 : wr.heap.size ≤ b := Nat.le_trans hb1.out.size h
            exact ⟨⟨by omega, fun e => by have := (HO.out.lt e).2; omega⟩, by omega⟩)
          have HO2 := Lib.hid (HO.out.below hbr)
          have HP2 := Lib.hid (HP.out.below hbr HP.out.lt)
          have HBW := Lib.hid (hb.trans (hbr.mono hb.size))
          have hpl2 := HP2.out.lt
          clear hpp hb2 hbr hv hb1 hb hplt HP HO HROW
          go_wp2_with fail
          go_loopw [1] (fun v wx => stInv s w.heap.size (.slice al ps.length cap) w2.heap.size k1 a l1 (w2.alloc (.cells #[.int .u8 y0, .int .u64 y1, .int .u64 y2, .int .u64 y3, .int .u64 y4, .slice yl yn yc, .int .i64 k1, .bool false] 48)) v wx) (fun v _ => s.size + 1 - (intOf v).toNat)
          case atStart => exact ⟨k1, a, y0, y1, y2, y3, y4, yl, yn, yc, rfl, Nat.le_refl _, hk1, by rw [hl1], blk_new w2 _, HV.out.alloc _, But.refl _ _ _⟩
          case round =>
            obtain ⟨k2, ex, z0, z1, z2, z3, z4, zl, zn, zc, rfl, hk12, hk2, hstar, hPB, hre, hbut⟩ := hrel
            have hbx : Below w2.heap.size w2 wr := ((Below.refl _ w2).alloc (Nat.le_refl _) _).trans ((hbut.mono (by simp)).below (Nat.le_refl _))
            have hszx : w2.heap.size + 1 ≤ wr.heap.size := by have := hbut.size; simpa using this
            have HPB := Lib.hid hPB
            have HRE := Lib.hid hre
            have HBUT := Lib.hid hbut
            have HSTAR := Lib.hid hstar
            have hlow : ∀ g, (Value.slice al ps.length cap).ownBlock = some g → w.heap.size + 1 ≤ g ∧ g < w2.heap.size := fun g hg => HO2.out.lt hg
            have HLOW := Lib.hid hlow
            have K42 := Lib.hid (show Calls Try.prog 23 #[.string s, .int .i64 k2, .int .u8 42] wr fun e w' => e = .returned (.bool (atB 42 (tl s k2))) ∧ w' = wr from KI.out k2 42 wr)
            have wk2 : IntKind.i64.wrap ((k2 : Int) + 1) = (k2 : Int) + 1 := by rw [IntKind.wrap_i64]; omega
            obtain ⟨q0, q1, q2, q3, q4, q5, q6, q7⟩ := hPB.cells
            clear hPB hre hbut hstar hlow
            cases h42 : atB 42 (tl s k2) with
            | true =>
              rw [h42] at K42
              obtain ⟨t, ht⟩ := atB_yes h42
              obtain ⟨hlt2, htl, _⟩ := pos_cons ht hk2
              have HS2 := Lib.hid (show stars a l1 = stars (.star ex) (tl s (k2 + 1)) from by rw [HSTAR.out, ht, htl]; rfl)
              have KM := Lib.hid (many_any ex.rx _ wr HRE.out)
              clear h42 ht htl HSTAR
              go_wp2_with fail
              refine K42.out.mono ?_
              rintro e' w5 ⟨rfl, hw⟩
              replace hw := hw.symm
              subst hw
              go_wp2_with fail
              refine KM.out.mono ?_
              rintro e' w6 ⟨v6, rfl, hv6, hb6⟩
              obtain ⟨x0, x1, x2, x3, x4, xl, xn, xc, rfl⟩ := cells_re hv6
              have hP6 := HPB.out.below hb6 HPB.out.lt
              obtain ⟨p0, p1, p2, p3, p4, p5, p6, p7⟩ := hP6.cells
              obtain ⟨f0, f1, f2, f3, f4, f5, f6, f7⟩ := hP6.frozen
              have HV6 := Lib.hid hv6
              have HB6 := Lib.hid hb6
              clear hv6 hb6 q0 q1 q2 q3 q4 q5 q6 q7
              go_wp2
              refine ⟨⟨k2 + 1, .star ex, x0, x1, x2, x3, x4, xl, xn, xc, by go_num, by omega, by omega, HS2.out, hP6.put6 _ _ _ _ _ _, HV6.out.put6 (fun b _ h => ?_) _ _ _ _ _ _, (HBUT.out.trans ((But.of HB6.out).mono (by simpa using hszx))).put6 _ _ _ _ _ _⟩, by simp [intOf]; omega⟩
              rcases h with h | h
              · exact ⟨h, h.2⟩
              · have h1 : w2.heap.size < b := by omega
                exact ⟨⟨⟨by omega, fun e => by have := (HLOW.out _ e).2; omega⟩, by omega⟩, by omega⟩
            | false =>
              rw [h42] at K42
              have hns : NoStar (tl s k2) := atB_no h42
              have HST2 := Lib.hid (HSTP.out ex (tl s k2) (by rw [HSTAR.out]; exact stars_no hns ex))
              have HO3 := HO2.out.below hbx
              obtain ⟨xs, hown3, hvals3⟩ := HO3
              have HOWN := Lib.hid hown3
              have HVAL := Lib.hid hvals3
              have HRE' := Lib.hid (HRE.out.imp (ok' := Kd w.heap.size (.slice al ps.length cap)) fun _ _ h => h.1)
              have hL3 : ∀ g, (Value.slice al ps.length cap).ownBlock = some g → w.heap.size + 1 ≤ g ∧ g < wr.heap.size := fun g hg => ⟨(HLOW.out g hg).1, by have := (HLOW.out g hg).2; omega⟩
              have HL3 := Lib.hid hL3
              have HBX := Lib.hid hbx
              clear h42 hns hown3 hvals3 hL3 hbx
              go_wp2_with fail
              refine K42.out.mono ?_
              rintro e' w5 ⟨rfl, hw⟩
              replace hw := hw.symm
              subst hw
              go_wp2_with (at_builtin; refine wpList_append_at rfl _ _ 26 rfl (w.heap.size + 1) 28 i0 _ 6 64 Try.underlying26 hi0 hz0 hz1 hz2'.out rfl (by decide) _ _ _ rfl (HOWN.out.alloc _) ⟨wr.heap.size, 0, none⟩ 1 1 [.int .u8 z0, .int .u64 z1, .int .u64 z2, .int .u64 z3, .int .u64 z4, .slice zl zn zc] rfl rfl ?c1 ?c2 ?c3 ?c4 ?c5 (by decide) ?_)
              case c1 => exact six_at _ rfl _ _ _ _ _ _
              case c2 => intro u hu; simp at hu; rcases hu with rfl | rfl | rfl | rfl | rfl | rfl <;> rfl
              case c3 => unfold maxLen; omega
              case c4 => omega
              case c5 => simp; omega
              intro v' w4 hown' hgrow hat
              obtain ⟨hO4, hb4⟩ := RowO.push' (B := w.heap.size) (by omega) ((Below.refl _ wr).alloc (Nat.le_refl _) _) HVAL.out HL3.out HRE'.out hown' hgrow hat (by simp)
              have HO4 := Lib.hid hO4
              have hbx4 : Below w.heap.size w w4 := (HBW.out.trans (HBX.out.mono HBW.out.size)).trans (hb4.mono (by omega))
              have HP4 := Lib.hid ((HP2.out.below HBX.out HP2.out.lt).below hb4 (by omega))
              have HBX4 := Lib.hid hbx4
              clear hO4 hown' hgrow hat hb4 hbx4
              go_wp2
              exact ⟨⟨k2, ps ++ [ex], rfl, by omega, hk2, by simp; omega, HP4.out, HBX4.out, HO4.out, HST2.out⟩, by simp [intOf]; omega⟩
        · have d0 : ((ps.length : Int) == 0) = false := by simpa using hc
          clear hc
          rw [h46] at K46
          rw [h91] at K91
          rw [h40] at K40
          rw [hbs] at KBG
          go_wp2_with fail
          refine (K46.out _).mono ?_
          rintro e' w1 ⟨rfl, hw⟩
          replace hw := hw.symm
          subst hw
          go_wp2_with fail
          refine (K91.out _).mono ?_
          rintro e' w1 ⟨rfl, hw⟩
          replace hw := hw.symm
          subst hw
          go_wp2_with fail
          refine (K40.out _).mono ?_
          rintro e' w1 ⟨rfl, hw⟩
          replace hw := hw.symm
          subst hw
          go_wp2_with fail
          refine (KBG.out _).mono ?_
          rintro e' w9 ⟨rfl, hb9⟩
          have hb1 := Lib.hid hb9
          clear hb9
          go_wp2_with fail
          refine (KA.out _).mono ?_
          rintro e' w2 hpp
          obtain ⟨y0, y1, y2, y3, y4, yl, yn, yc, rfl, hv, hb2⟩ := hpp.ok
          rw [hpos1]
          have hbr := hb1.out.trans (hb2.mono hb1.out.size)
          have HV := Lib.hid (show ReAt (Kp w.heap.size (.slice al ps.length cap) w2.heap.size) w2 (.agg #[.int .u8 y0, .int .u64 y1, .int .u64 y2, .int .u64 y3, .int .u64 y4, .slice yl yn yc]) a.rx from hv.imp fun b hlt h => by
            have h1 : wr.heap.size ≤ b := Nat.le_trans hb1.out.size h
            exact ⟨⟨by omega, fun e => by have := (HO.out.lt e).2; omega⟩, by omega⟩)
          have HO2 := Lib.hid (HO.out.below hbr)
          have HP2 := Lib.hid (HP.out.below hbr HP.out.lt)
          have HBW := Lib.hid (hb.trans (hbr.mono hb.size))
          have hpl2 := HP2.out.lt
          clear hpp hb2 hbr hv hb1 hb hplt HP HO HROW
          go_wp2_with fail
          go_loopw [1] (fun v wx => stInv s w.heap.size (.slice al ps.length cap) w2.heap.size k1 a l1 (w2.alloc (.cells #[.int .u8 y0, .int .u64 y1, .int .u64 y2, .int .u64 y3, .int .u64 y4, .slice yl yn yc, .int .i64 k1, .bool false] 48)) v wx) (fun v _ => s.size + 1 - (intOf v).toNat)
          case atStart => exact ⟨k1, a, y0, y1, y2, y3, y4, yl, yn, yc, rfl, Nat.le_refl _, hk1, by rw [hl1], blk_new w2 _, HV.out.alloc _, But.refl _ _ _⟩
          case round =>
            obtain ⟨k2, ex, z0, z1, z2, z3, z4, zl, zn, zc, rfl, hk12, hk2, hstar, hPB, hre, hbut⟩ := hrel
            have hbx : Below w2.heap.size w2 wr := ((Below.refl _ w2).alloc (Nat.le_refl _) _).trans ((hbut.mono (by simp)).below (Nat.le_refl _))
            have hszx : w2.heap.size + 1 ≤ wr.heap.size := by have := hbut.size; simpa using this
            have HPB := Lib.hid hPB
            have HRE := Lib.hid hre
            have HBUT := Lib.hid hbut
            have HSTAR := Lib.hid hstar
            have hlow : ∀ g, (Value.slice al ps.length cap).ownBlock = some g → w.heap.size + 1 ≤ g ∧ g < w2.heap.size := fun g hg => HO2.out.lt hg
            have HLOW := Lib.hid hlow
            have K42 := Lib.hid (show Calls Try.prog 23 #[.string s, .int .i64 k2, .int .u8 42] wr fun e w' => e = .returned (.bool (atB 42 (tl s k2))) ∧ w' = wr from KI.out k2 42 wr)
            have wk2 : IntKind.i64.wrap ((k2 : Int) + 1) = (k2 : Int) + 1 := by rw [IntKind.wrap_i64]; omega
            obtain ⟨q0, q1, q2, q3, q4, q5, q6, q7⟩ := hPB.cells
            clear hPB hre hbut hstar hlow
            cases h42 : atB 42 (tl s k2) with
            | true =>
              rw [h42] at K42
              obtain ⟨t, ht⟩ := atB_yes h42
              obtain ⟨hlt2, htl, _⟩ := pos_cons ht hk2
              have HS2 := Lib.hid (show stars a l1 = stars (.star ex) (tl s (k2 + 1)) from by rw [HSTAR.out, ht, htl]; rfl)
              have KM := Lib.hid (many_any ex.rx _ wr HRE.out)
              clear h42 ht htl HSTAR
              go_wp2_with fail
              refine K42.out.mono ?_
              rintro e' w5 ⟨rfl, hw⟩
              replace hw := hw.symm
              subst hw
              go_wp2_with fail
              refine KM.out.mono ?_
              rintro e' w6 ⟨v6, rfl, hv6, hb6⟩
              obtain ⟨x0, x1, x2, x3, x4, xl, xn, xc, rfl⟩ := cells_re hv6
              have hP6 := HPB.out.below hb6 HPB.out.lt
              obtain ⟨p0, p1, p2, p3, p4, p5, p6, p7⟩ := hP6.cells
              obtain ⟨f0, f1, f2, f3, f4, f5, f6, f7⟩ := hP6.frozen
              have HV6 := Lib.hid hv6
              have HB6 := Lib.hid hb6
              clear hv6 hb6 q0 q1 q2 q3 q4 q5 q6 q7
              go_wp2
              refine ⟨⟨k2 + 1, .star ex, x0, x1, x2, x3, x4, xl, xn, xc, by go_num, by omega, by omega, HS2.out, hP6.put6 _ _ _ _ _ _, HV6.out.put6 (fun b _ h => ?_) _ _ _ _ _ _, (HBUT.out.trans ((But.of HB6.out).mono (by simpa using hszx))).put6 _ _ _ _ _ _⟩, by simp [intOf]; omega⟩
              rcases h with h | h
              · exact ⟨h, h.2⟩
              · have h1 : w2.heap.size < b := by omega
                exact ⟨⟨⟨by omega, fun e => by have := (HLOW.out _ e).2; omega⟩, by omega⟩, by omega⟩
            | false =>
              rw [h42] at K42
              have hns : NoStar (tl s k2) := atB_no h42
              have HST2 := Lib.hid (HSTP.out ex (tl s k2) (by rw [HSTAR.out]; exact stars_no hns ex))
              have HO3 := HO2.out.below hbx
              obtain ⟨xs, hown3, hvals3⟩ := HO3
              have HOWN := Lib.hid hown3
              have HVAL := Lib.hid hvals3
              have HRE' := Lib.hid (HRE.out.imp (ok' := Kd w.heap.size (.slice al ps.length cap)) fun _ _ h => h.1)
              have hL3 : ∀ g, (Value.slice al ps.length cap).ownBlock = some g → w.heap.size + 1 ≤ g ∧ g < wr.heap.size := fun g hg => ⟨(HLOW.out g hg).1, by have := (HLOW.out g hg).2; omega⟩
              have HL3 := Lib.hid hL3
              have HBX := Lib.hid hbx
              clear h42 hns hown3 hvals3 hL3 hbx
              go_wp2_with fail
              refine K42.out.mono ?_
              rintro e' w5 ⟨rfl, hw⟩
              replace hw := hw.symm
              subst hw
              go_wp2_with (at_builtin; refine wpList_append_at rfl _ _ 26 rfl (w.heap.size + 1) 28 i0 _ 6 64 Try.underlying26 hi0 hz0 hz1 hz2'.out rfl (by decide) _ _ _ rfl (HOWN.out.alloc _) ⟨wr.heap.size, 0, none⟩ 1 1 [.int .u8 z0, .int .u64 z1, .int .u64 z2, .int .u64 z3, .int .u64 z4, .slice zl zn zc] rfl rfl ?c1 ?c2 ?c3 ?c4 ?c5 (by decide) ?_)
              case c1 => exact six_at _ rfl _ _ _ _ _ _
              case c2 => intro u hu; simp at hu; rcases hu with rfl | rfl | rfl | rfl | rfl | rfl <;> rfl
              case c3 => unfold maxLen; omega
              case c4 => omega
              case c5 => simp; omega
              intro v' w4 hown' hgrow hat
              obtain ⟨hO4, hb4⟩ := RowO.push' (B := w.heap.size) (by omega) ((Below.refl _ wr).alloc (Nat.le_refl _) _) HVAL.out HL3.out HRE'.out hown' hgrow hat (by simp)
              have HO4 := Lib.hid hO4
              have hbx4 : Below w.heap.size w w4 := (HBW.out.trans (HBX.out.mono HBW.out.size)).trans (hb4.mono (by omega))
              have HP4 := Lib.hid ((HP2.out.below HBX.out HP2.out.lt).below hb4 (by omega))
              have HBX4 := Lib.hid hbx4
              clear hO4 hown' hgrow hat hb4 hbx4
              go_wp2
              exact ⟨⟨k2, ps ++ [ex], rfl, by omega, hk2, by simp; omega, HP4.out, HBX4.out, HO4.out, HST2.out⟩, by simp [intOf]; omega⟩
end Go.Proofs.Ytmkjcbgcikgglaa
/- quillref06's Read. -/
namespace Go.Proofs.Ytmkjcbgcikgglaa
open Go.RowKit
theorem altC_all {s : ByteArray} (hs : s.size ≤ 1000000000) (N : Nat) : AltC s N := by
  induction N using Nat.strongRecOn with
  | _ N ih => exact alt_any hs (row_any hs (atom_any hs ih))
theorem alt_read {s : ByteArray} (hs : s.size ≤ 1000000000) (w : World) {res : PR} (h : PX .alt s.data.toList res) : Calls Try.prog 16 #[.string s, .int .i64 0] w (ParsePost s w res) :=
  altC_all hs _ 0 (Nat.zero_le _) (Nat.le_refl _) w res h
theorem ret_re3 {fn : Func} {R : Ending → World → Prop} {a : Act} {W : World} {k i j g : Nat} {x0 x1 x2 x3 x4 x5 : Value} {fz : Nat × Nat} (hB : W.heap[g]? = some (.cells #[x0, x1, x2, x3, x4, x5] 28 fz)) (hres : fn.results = #[.cell k 28, .tmp i, .tmp j]) (hslot : a.tmps.getD k undef = .pointer (some ⟨g, 0, none⟩)) (hd : a.defers = []) (hR : R (.returned (.tuple #[.agg #[x0, x1, x2, x3, x4, x5], a.tmps.getD i undef, a.tmps.getD j undef])) W) : bodyPost Try.prog fn R .ret a W := by
  have c0 : W.cell? ⟨g, 0, none⟩ = some x0 := by rw [Lib.cell_of_heap hB]; rfl
  have c1 : W.cell? ⟨g, 1, none⟩ = some x1 := by rw [Lib.cell_of_heap hB]; rfl
  have c2 : W.cell? ⟨g, 2, none⟩ = some x2 := by rw [Lib.cell_of_heap hB]; rfl
  have c3 : W.cell? ⟨g, 3, none⟩ = some x3 := by rw [Lib.cell_of_heap hB]; rfl
  have c4 : W.cell? ⟨g, 4, none⟩ = some x4 := by rw [Lib.cell_of_heap hB]; rfl
  have c5 : W.cell? ⟨g, 5, none⟩ = some x5 := by rw [Lib.cell_of_heap hB]; rfl
  refine bodyPost_ret (v := .tuple #[.agg #[x0, x1, x2, x3, x4, x5], a.tmps.getD i undef, a.tmps.getD j undef]) ?_ hd hR
  have hslot' : a.tmps[k]?.getD undef = .pointer (some ⟨g, 0, none⟩) := by simpa using hslot
  simp [results, hres, hslot', go_sem, c0, c1, c2, c3, c4, c5]
theorem put_plain {w : World} {g : Nat} {x0 x1 x2 x3 x4 x5 : Value} (h : w.heap[g]? = some (.cells #[x0, x1, x2, x3, x4, x5] 28)) (y0 y1 y2 y3 y4 y5 : Value) : ((((((w.setCell ⟨g, 0, none⟩ y0).setCell ⟨g, 1, none⟩ y1).setCell ⟨g, 2, none⟩ y2).setCell ⟨g, 3, none⟩ y3).setCell ⟨g, 4, none⟩ y4).setCell ⟨g, 5, none⟩ y5).heap[g]? = some (.cells #[y0, y1, y2, y3, y4, y5] 28) := putR h y0 y1 y2 y3 y4 y5
theorem drew_heap (w : World) : w.drew.heap = w.heap := rfl
theorem put_drew {w : World} {g : Nat} {x0 x1 x2 x3 x4 x5 : Value} (h : w.heap[g]? = some (.cells #[x0, x1, x2, x3, x4, x5] 28)) (y0 y1 y2 y3 y4 y5 : Value) : ((((((w.setCell ⟨g, 0, none⟩ y0).setCell ⟨g, 1, none⟩ y1).setCell ⟨g, 2, none⟩ y2).setCell ⟨g, 3, none⟩ y3).setCell ⟨g, 4, none⟩ y4).setCell ⟨g, 5, none⟩ y5).drew.heap[g]? = some (.cells #[y0, y1, y2, y3, y4, y5] 28) := by
  rw [drew_heap]
  exact put_plain h y0 y1 y2 y3 y4 y5
theorem bel_plain {v w : World} {B g : Nat} (h : Below B v w) (hg : B ≤ g) (y0 y1 y2 y3 y4 y5 : Value) : Below B v ((((((w.setCell ⟨g, 0, none⟩ y0).setCell ⟨g, 1, none⟩ y1).setCell ⟨g, 2, none⟩ y2).setCell ⟨g, 3, none⟩ y3).setCell ⟨g, 4, none⟩ y4).setCell ⟨g, 5, none⟩ y5) := putB h hg y0 y1 y2 y3 y4 y5
theorem bel_drew {v w : World} {B g : Nat} (h : Below B v w) (hg : B ≤ g) (y0 y1 y2 y3 y4 y5 : Value) : Below B v ((((((w.setCell ⟨g, 0, none⟩ y0).setCell ⟨g, 1, none⟩ y1).setCell ⟨g, 2, none⟩ y2).setCell ⟨g, 3, none⟩ y3).setCell ⟨g, 4, none⟩ y4).setCell ⟨g, 5, none⟩ y5).drew := (bel_plain h hg y0 y1 y2 y3 y4 y5).drew
set_option maxHeartbeats 4000000 in
theorem refRead6 (s : ByteArray) (w : World) (hs : s.size ≤ 1000000000) (res : PR) (hres : PX .alt s.data.toList res) :
    Calls Try.prog 9 #[.string s] w (RdPost w (topR s.size res)) := by
  by_cases hbig : 65536 < s.size
  · have d0 : decide ((65536 : Int) < (s.size : Int)) = true := by simp; omega
    have hr : topR s.size res = .no 0 3 := by unfold topR; rw [if_pos hbig]
    rw [hr]
    clear hr
    go_enter Try.func9, Try.ntmps9
    go_wp2
    exact ret_re3 ((Below.heap_alloc _ _ _ (by simp)).trans (blk_new w _)) Try.results9 rfl rfl ⟨((Below.refl _ w).alloc (Nat.le_refl _) _).alloc (by simp) _, rfl⟩
  · have d0 : decide ((65536 : Int) < (s.size : Int)) = false := by simp; omega
    have KA := Lib.hid (fun W => alt_read hs W hres)
    have hfa := hres.fact
    have hlen0 : s.data.toList.length = s.size := by simp
    obtain ⟨W0, hW0⟩ : ∃ W0, W0 = (w.alloc (.cells #[.int .u8 0, .int .u64 0, .int .u64 0, .int .u64 0, .int .u64 0, .slice none 0 0] 28)).alloc (.cells #[.int .u8 0, .int .u64 0, .int .u64 0, .int .u64 0, .int .u64 0, .slice none 0 0] 28) := ⟨_, rfl⟩
    have hg0 : W0.heap[w.heap.size]? = some (.cells #[.int .u8 0, .int .u64 0, .int .u64 0, .int .u64 0, .int .u64 0, .slice none 0 0] 28) := by rw [hW0]; exact (Below.heap_alloc _ _ _ (by simp)).trans (blk_new w _)
    have hg1 : W0.heap[w.heap.size + 1]? = some (.cells #[.int .u8 0, .int .u64 0, .int .u64 0, .int .u64 0, .int .u64 0, .slice none 0 0] 28) := by rw [hW0]; exact blk_at _ _ (by simp)
    have hb : Below w.heap.size w W0 := by rw [hW0]; exact ((Below.refl _ w).alloc (Nat.le_refl _) _).alloc (by simp) _
    have hl0 : w.heap.size < W0.heap.size := (Array.getElem?_eq_some_iff.1 hg0).1
    have hl1 : w.heap.size + 1 < W0.heap.size := (Array.getElem?_eq_some_iff.1 hg1).1
    have HW0 := Lib.hid hW0
    have mixed : Try.prog.follows Departure.mixedOrders = true := by kernel_rfl
    clear hW0
    cases res with
    | bad r =>
      have hr : topR s.size (.bad r) = .no (s.size - r.length) 2 := by unfold topR; rw [if_neg hbig]
      rw [hr]
      clear hr hres hfa
      go_enter Try.func9, Try.ntmps9
      go_wp2_with fail
      rw [← HW0.out]
      clear HW0
      refine (KA.out _).mono ?_
      rintro e' w2 hpp
      obtain ⟨y0, y1, y2, y3, y4, yl, yn, yc, rfl, hb2⟩ := hpp.bad
      generalize s.size - r.length = K at *
      have hbw := hb.trans (hb2.mono hb.size)
      have hm0 : w.heap.size < w2.heap.size := Nat.lt_of_lt_of_le hl0 hb2.size
      have hgW0 := fun o => (Below.heap_alloc w2 o _ hm0).trans ((hb2.block _ hl0).trans hg0)
      have hgW1 := fun o => (Below.heap_alloc w2 o _ (Nat.lt_of_lt_of_le hl1 hb2.size)).trans ((hb2.block _ hl1).trans hg1)
      have hbW := fun o => hbw.alloc hbw.size o
      clear hpp hb2 hbw
      obtain ⟨W, hW⟩ : ∃ W, W = w2.alloc (.cells #[.int .u8 y0, .int .u64 y1, .int .u64 y2, .int .u64 y3, .int .u64 y4, .slice yl yn yc, .int .i64 (K : Int), .bool true] 48) := ⟨_, rfl⟩
      have hA := hgW0 (.cells #[.int .u8 y0, .int .u64 y1, .int .u64 y2, .int .u64 y3, .int .u64 y4, .slice yl yn yc, .int .i64 (K : Int), .bool true] 48)
      have hB := hgW1 (.cells #[.int .u8 y0, .int .u64 y1, .int .u64 y2, .int .u64 y3, .int .u64 y4, .slice yl yn yc, .int .i64 (K : Int), .bool true] 48)
      have hC := blk_new w2 (.cells #[.int .u8 y0, .int .u64 y1, .int .u64 y2, .int .u64 y3, .int .u64 y4, .slice yl yn yc, .int .i64 (K : Int), .bool true] 48)
      have hD := hbW (.cells #[.int .u8 y0, .int .u64 y1, .int .u64 y2, .int .u64 y3, .int .u64 y4, .slice yl yn yc, .int .i64 (K : Int), .bool true] 48)
      rw [← hW] at hA hB hC hD
      clear hgW0 hgW1 hbW
      go_wp2_with fail
      rw [← hW]
      clear hW
      obtain ⟨a0, a1, a2, a3, a4, a5, b0, b1, b2, b3, b4, b5⟩ := cellsR hA
      obtain ⟨i0, i1, i2, i3, i4, i5, -⟩ := cellsR hB
      obtain ⟨j0, j1, j2, j3, j4, j5, j6, j7⟩ := PB.cells (show PB W _ _ _ _ _ _ _ _ _ from hC)
      obtain ⟨c0, c1, c2, c3, c4, c5, f0, f1, f2, f3, f4, f5⟩ := cellsR (show W.drew.heap[w.heap.size]? = some (.cells #[.int .u8 0, .int .u64 0, .int .u64 0, .int .u64 0, .int .u64 0, .slice none 0 0] 28) from hA)
      obtain ⟨e0, e1, e2, e3, e4, e5, -⟩ := cellsR (show W.drew.heap[w.heap.size + 1]? = some (.cells #[.int .u8 0, .int .u64 0, .int .u64 0, .int .u64 0, .int .u64 0, .slice none 0 0] 28) from hB)
      have c6 : W.drew.cell? ⟨w2.heap.size, 6, none⟩ = some (.int .i64 K) := (PB.cells (show PB W.drew _ _ _ _ _ _ _ _ _ from hC)).2.2.2.2.2.2.1
      have HD := Lib.hid hD
      have HA := Lib.hid hA
      clear hA hB hC hD
      go_region
      all_goals
        go_wp2
        exact ret_re3 (put_drew HA.out _ _ _ _ _ _) Try.results9 rfl rfl ⟨bel_drew HD.out (Nat.le_refl _) _ _ _ _ _ _, rfl⟩
    | ok e l =>
      obtain ⟨we, hsuf, hlt, hsize⟩ := hfa
      rw [hlen0] at hlt hsize
      by_cases hl : l = []
      · subst hl
        simp only [List.length_nil, Nat.sub_zero] at hsize
        have hmay : mayR e.rx = decide (e.size ≤ 2000) := by unfold mayR mayN; rw [good_ex e we, Ex.size_rx, Bool.true_and]
        have hp0 : s.size - ([] : List UInt8).length = s.size := by simp
        by_cases hsm : e.size ≤ 2000
        · have hr : topR s.size (.ok e []) = .ok e := by unfold topR; rw [if_neg hbig]; simp [hsm]
          rw [hr]
          rw [decide_eq_true hsm] at hmay
          clear hr hres hsuf
          go_enter Try.func9, Try.ntmps9
          go_wp2_with fail
          rw [← HW0.out]
          clear HW0
          refine (KA.out _).mono ?_
          rintro e' w2 hpp
          obtain ⟨y0, y1, y2, y3, y4, yl, yn, yc, rfl, hv, hb2⟩ := hpp.ok
          rw [hp0]
          have hbw := hb.trans (hb2.mono hb.size)
          have hm0 : w.heap.size < w2.heap.size := Nat.lt_of_lt_of_le hl0 hb2.size
          have hgW0 := fun o => (Below.heap_alloc w2 o _ hm0).trans ((hb2.block _ hl0).trans hg0)
          have hgW1 := fun o => (Below.heap_alloc w2 o _ (Nat.lt_of_lt_of_le hl1 hb2.size)).trans ((hb2.block _ hl1).trans hg1)
          have hbW := fun o => hbw.alloc hbw.size o
          obtain ⟨W, hW⟩ : ∃ W, W = w2.alloc (.cells #[.int .u8 y0, .int .u64 y1, .int .u64 y2, .int .u64 y3, .int .u64 y4, .slice yl yn yc, .int .i64 (s.size : Int), .bool false] 48) := ⟨_, rfl⟩
          have hA := hgW0 (.cells #[.int .u8 y0, .int .u64 y1, .int .u64 y2, .int .u64 y3, .int .u64 y4, .slice yl yn yc, .int .i64 (s.size : Int), .bool false] 48)
          have hB := hgW1 (.cells #[.int .u8 y0, .int .u64 y1, .int .u64 y2, .int .u64 y3, .int .u64 y4, .slice yl yn yc, .int .i64 (s.size : Int), .bool false] 48)
          have hC := blk_new w2 (.cells #[.int .u8 y0, .int .u64 y1, .int .u64 y2, .int .u64 y3, .int .u64 y4, .slice yl yn yc, .int .i64 (s.size : Int), .bool false] 48)
          have hD := hbW (.cells #[.int .u8 y0, .int .u64 y1, .int .u64 y2, .int .u64 y3, .int .u64 y4, .slice yl yn yc, .int .i64 (s.size : Int), .bool false] 48)
          rw [← hW] at hA hB hC hD
          have hvW := Lib.hid (hv.alloc (.cells #[.int .u8 y0, .int .u64 y1, .int .u64 y2, .int .u64 y3, .int .u64 y4, .slice yl yn yc, .int .i64 (s.size : Int), .bool false] 48))
          rw [← hW] at hvW
          have KM := Lib.hid (refMay_any e.rx _ W (by rw [Ex.size_rx]; omega) hvW.out)
          rw [hmay] at KM
          clear hpp hv hb2 hbw hgW0 hgW1 hbW
          go_wp2_with fail
          rw [← hW]
          refine KM.out.mono ?_
          rintro e' w5 ⟨rfl, hb5⟩
          have hlW : w.heap.size < W.heap.size := (Array.getElem?_eq_some_iff.1 hA).1
          have hA5 := (hb5.block _ hlW).trans hA
          obtain ⟨a0, a1, a2, a3, a4, a5, b0, b1, b2, b3, b4, b5⟩ := cellsR hA5
          obtain ⟨j0, j1, j2, j3, j4, j5, j6, j7⟩ := PB.cells ((show PB W _ _ _ _ _ _ _ _ _ from hC).below hb5 (PB.lt (show PB W _ _ _ _ _ _ _ _ _ from hC)))
          have HD := Lib.hid (hD.trans (hb5.mono hD.size))
          have HA := Lib.hid hA5
          have HV := Lib.hid (hvW.out.below hb5)
          clear hA hB hC hD hW hb5 hA5
          go_wp2
          refine ret_re3 (put_plain HA.out _ _ _ _ _ _) Try.results9 rfl rfl ⟨bel_plain HD.out (Nat.le_refl _) _ _ _ _ _ _, _, rfl, HV.out.put6 (fun b _ h => ?_) _ _ _ _ _ _⟩
          have h1 : W0.heap.size ≤ b := h
          exact ⟨show w.heap.size ≤ b by omega, by omega⟩
        · have hr : topR s.size (.ok e []) = .no 0 4 := by unfold topR; rw [if_neg hbig]; simp [hsm]
          rw [hr]
          rw [decide_eq_false hsm] at hmay
          clear hr hres hsuf
          go_enter Try.func9, Try.ntmps9
          go_wp2_with fail
          rw [← HW0.out]
          clear HW0
          refine (KA.out _).mono ?_
          rintro e' w2 hpp
          obtain ⟨y0, y1, y2, y3, y4, yl, yn, yc, rfl, hv, hb2⟩ := hpp.ok
          rw [hp0]
          have hbw := hb.trans (hb2.mono hb.size)
          have hm0 : w.heap.size < w2.heap.size := Nat.lt_of_lt_of_le hl0 hb2.size
          have hgW0 := fun o => (Below.heap_alloc w2 o _ hm0).trans ((hb2.block _ hl0).trans hg0)
          have hgW1 := fun o => (Below.heap_alloc w2 o _ (Nat.lt_of_lt_of_le hl1 hb2.size)).trans ((hb2.block _ hl1).trans hg1)
          have hbW := fun o => hbw.alloc hbw.size o
          obtain ⟨W, hW⟩ : ∃ W, W = w2.alloc (.cells #[.int .u8 y0, .int .u64 y1, .int .u64 y2, .int .u64 y3, .int .u64 y4, .slice yl yn yc, .int .i64 (s.size : Int), .bool false] 48) := ⟨_, rfl⟩
          have hA := hgW0 (.cells #[.int .u8 y0, .int .u64 y1, .int .u64 y2, .int .u64 y3, .int .u64 y4, .slice yl yn yc, .int .i64 (s.size : Int), .bool false] 48)
          have hB := hgW1 (.cells #[.int .u8 y0, .int .u64 y1, .int .u64 y2, .int .u64 y3, .int .u64 y4, .slice yl yn yc, .int .i64 (s.size : Int), .bool false] 48)
          have hC := blk_new w2 (.cells #[.int .u8 y0, .int .u64 y1, .int .u64 y2, .int .u64 y3, .int .u64 y4, .slice yl yn yc, .int .i64 (s.size : Int), .bool false] 48)
          have hD := hbW (.cells #[.int .u8 y0, .int .u64 y1, .int .u64 y2, .int .u64 y3, .int .u64 y4, .slice yl yn yc, .int .i64 (s.size : Int), .bool false] 48)
          rw [← hW] at hA hB hC hD
          have hvW := Lib.hid (hv.alloc (.cells #[.int .u8 y0, .int .u64 y1, .int .u64 y2, .int .u64 y3, .int .u64 y4, .slice yl yn yc, .int .i64 (s.size : Int), .bool false] 48))
          rw [← hW] at hvW
          have KM := Lib.hid (refMay_any e.rx _ W (by rw [Ex.size_rx]; omega) hvW.out)
          rw [hmay] at KM
          clear hpp hv hb2 hbw hgW0 hgW1 hbW
          go_wp2_with fail
          rw [← hW]
          refine KM.out.mono ?_
          rintro e' w5 ⟨rfl, hb5⟩
          have hlW : w.heap.size < W.heap.size := (Array.getElem?_eq_some_iff.1 hA).1
          have hlW1 : w.heap.size + 1 < W.heap.size := (Array.getElem?_eq_some_iff.1 hB).1
          have hA5 := (hb5.block _ hlW).trans hA
          have hB5 := (hb5.block _ hlW1).trans hB
          obtain ⟨a0, a1, a2, a3, a4, a5, b0, b1, b2, b3, b4, b5⟩ := cellsR hA5
          obtain ⟨i0, i1, i2, i3, i4, i5, -⟩ := cellsR hB5
          have HD := Lib.hid (hD.trans (hb5.mono hD.size))
          have HA := Lib.hid hA5
          clear hA hB hC hD hW hb5 hA5 hB5
          go_wp2
          exact ret_re3 (put_plain HA.out _ _ _ _ _ _) Try.results9 rfl rfl ⟨bel_plain HD.out (Nat.le_refl _) _ _ _ _ _ _, rfl⟩
      · have hr : topR s.size (.ok e l) = .no (s.size - l.length) 2 := by unfold topR; rw [if_neg hbig]; simp [hl]
        rw [hr]
        have hlp : 0 < l.length := List.length_pos_iff.2 hl
        have hKs : s.size - l.length < s.size := by omega
        clear hr hres hl hsuf hsize
        go_enter Try.func9, Try.ntmps9
        go_wp2_with fail
        rw [← HW0.out]
        clear HW0
        refine (KA.out _).mono ?_
        rintro e' w2 hpp
        obtain ⟨y0, y1, y2, y3, y4, yl, yn, yc, rfl, -, hb2⟩ := hpp.ok
        generalize s.size - l.length = K at *
        have d3 : decide ((K : Int) < (s.size : Int)) = true := by simp; omega
        have hbw := hb.trans (hb2.mono hb.size)
        have hm0 : w.heap.size < w2.heap.size := Nat.lt_of_lt_of_le hl0 hb2.size
        have hgW0 := fun o => (Below.heap_alloc w2 o _ hm0).trans ((hb2.block _ hl0).trans hg0)
        have hgW1 := fun o => (Below.heap_alloc w2 o _ (Nat.lt_of_lt_of_le hl1 hb2.size)).trans ((hb2.block _ hl1).trans hg1)
        have hbW := fun o => hbw.alloc hbw.size o
        clear hpp hb2 hbw
        obtain ⟨W, hW⟩ : ∃ W, W = w2.alloc (.cells #[.int .u8 y0, .int .u64 y1, .int .u64 y2, .int .u64 y3, .int .u64 y4, .slice yl yn yc, .int .i64 (K : Int), .bool false] 48) := ⟨_, rfl⟩
        have hA := hgW0 (.cells #[.int .u8 y0, .int .u64 y1, .int .u64 y2, .int .u64 y3, .int .u64 y4, .slice yl yn yc, .int .i64 (K : Int), .bool false] 48)
        have hB := hgW1 (.cells #[.int .u8 y0, .int .u64 y1, .int .u64 y2, .int .u64 y3, .int .u64 y4, .slice yl yn yc, .int .i64 (K : Int), .bool false] 48)
        have hC := blk_new w2 (.cells #[.int .u8 y0, .int .u64 y1, .int .u64 y2, .int .u64 y3, .int .u64 y4, .slice yl yn yc, .int .i64 (K : Int), .bool false] 48)
        have hD := hbW (.cells #[.int .u8 y0, .int .u64 y1, .int .u64 y2, .int .u64 y3, .int .u64 y4, .slice yl yn yc, .int .i64 (K : Int), .bool false] 48)
        rw [← hW] at hA hB hC hD
        clear hgW0 hgW1 hbW
        go_wp2_with fail
        rw [← hW]
        clear hW
        obtain ⟨a0, a1, a2, a3, a4, a5, b0, b1, b2, b3, b4, b5⟩ := cellsR hA
        obtain ⟨i0, i1, i2, i3, i4, i5, -⟩ := cellsR hB
        obtain ⟨j0, j1, j2, j3, j4, j5, j6, j7⟩ := PB.cells (show PB W _ _ _ _ _ _ _ _ _ from hC)
        obtain ⟨c0, c1, c2, c3, c4, c5, f0, f1, f2, f3, f4, f5⟩ := cellsR (show W.drew.heap[w.heap.size]? = some (.cells #[.int .u8 0, .int .u64 0, .int .u64 0, .int .u64 0, .int .u64 0, .slice none 0 0] 28) from hA)
        obtain ⟨e0, e1, e2, e3, e4, e5, -⟩ := cellsR (show W.drew.heap[w.heap.size + 1]? = some (.cells #[.int .u8 0, .int .u64 0, .int .u64 0, .int .u64 0, .int .u64 0, .slice none 0 0] 28) from hB)
        have c6 : W.drew.cell? ⟨w2.heap.size, 6, none⟩ = some (.int .i64 K) := (PB.cells (show PB W.drew _ _ _ _ _ _ _ _ _ from hC)).2.2.2.2.2.2.1
        have HD := Lib.hid hD
        have HA := Lib.hid hA
        clear hA hB hC hD
        go_region
        all_goals
          go_wp2
          exact ret_re3 (put_drew HA.out _ _ _ _ _ _) Try.results9 rfl rfl ⟨bel_drew HD.out (Nat.le_refl _) _ _ _ _ _ _, rfl⟩
end Go.Proofs.Ytmkjcbgcikgglaa
/- What package read is to answer, as the laws' walks take it; layer 6's example; quilllaw06.ReadIs, walked. -/
namespace Go.Proofs.Ytmkjcbgcikgglaa
open Go.RowKit
/-- What is read of a text. -/
noncomputable def resOf (s : ByteArray) : PR := Classical.choose (PX.total _ s.data.toList (Nat.le_refl _)).2.2
theorem resOf_px (s : ByteArray) : PX .alt s.data.toList (resOf s) := Classical.choose_spec (PX.total _ s.data.toList (Nat.le_refl _)).2.2
noncomputable def rdOf (s : ByteArray) : RD := topR s.size (resOf s)
theorem rdOf_px {s : ByteArray} {res : PR} (h : PX .alt s.data.toList res) : rdOf s = topR s.size res := by
  unfold rdOf
  rw [(resOf_px s).det h]
def RD.isOk : RD → Bool
  | .ok _ => true
  | .no _ _ => false
/-- A slice of texts. -/
def StrsAt (w : World) (al : Option Addr) (L : List ByteArray) : Prop := L = [] ∨ ∃ b off, al = some ⟨b, off, none⟩ ∧ b < w.heap.size ∧ ∀ i (h : i < L.length), w.cell? ⟨b, off + i, none⟩ = some (.string L[i])
def ReadC : Prop := ∀ (s : ByteArray) (w : World), s.size ≤ 1000000000 → Calls Try.prog 8 #[.string s] w (RdPost w (rdOf s))
def FormC : Prop := ∀ (L : List ByteArray) (al : Option Addr) (cap : Nat) (w : World), L.length ≤ 20 → (∀ s ∈ L, s.size ≤ 1000000000) → StrsAt w al L → Calls Try.prog 11 #[.slice al L.length cap] w fun e w' => e = .returned (.bool (L.all fun s => (rdOf s).isOk)) ∧ Below w.heap.size w w'
theorem strs_one (w : World) (s : ByteArray) {g : Nat} (hg : g = w.heap.size) (t : TypeId) : StrsAt (w.alloc (.cells #[.string s] t)) (some ⟨g, 0, none⟩) [s] := by
  subst hg
  refine .inr ⟨_, 0, rfl, by simp, fun i h => ?_⟩
  match i, h with
  | 0, _ => simp
/-- The value, the place and the number that Read answers. -/
theorem RdPost.open {w w' : World} {rd : RD} {e : Ending} (h : RdPost w rd e w') : ∃ (y0 y1 y2 y3 y4 : Int) (yl : Option Addr) (yn yc k err : Nat) (r : Rx), e = .returned (.tuple #[.agg #[.int .u8 y0, .int .u64 y1, .int .u64 y2, .int .u64 y3, .int .u64 y4, .slice yl yn yc], .int .i64 (k : Int), .int .i64 (err : Int)]) ∧ ReAt (New w.heap.size) w' (.agg #[.int .u8 y0, .int .u64 y1, .int .u64 y2, .int .u64 y3, .int .u64 y4, .slice yl yn yc]) r ∧ Below w.heap.size w w' ∧
    (match rd with | .ok ex => r = ex.rx ∧ k = 0 ∧ err = 0 | .no k' err' => r = .node 0 Ws.nil [] ∧ k = k' ∧ err = err') := by
  obtain ⟨hb, h⟩ := h
  cases rd with
  | ok ex =>
    obtain ⟨v, he, hv⟩ := h
    obtain ⟨y0, y1, y2, y3, y4, yl, yn, yc, rfl⟩ := cells_re hv
    exact ⟨y0, y1, y2, y3, y4, yl, yn, yc, 0, 0, _, he, hv, hb, rfl, rfl, rfl⟩
  | no k err =>
    exact ⟨0, 0, 0, 0, 0, none, 0, 0, k, err, _, h, bareAt _ _ 0 Ws.nil (by decide) Ws.nil_ok, hb, rfl, rfl, rfl⟩
def RD.rx : RD → Rx
  | .ok e => e.rx
  | .no _ _ => .node 0 Ws.nil []
def RD.k : RD → Nat
  | .ok _ => 0
  | .no k _ => k
def RD.err : RD → Nat
  | .ok _ => 0
  | .no _ err => err
theorem RdPost.all {w w' : World} {rd : RD} {e : Ending} (h : RdPost w rd e w') : ∃ (y0 y1 y2 y3 y4 : Int) (yl : Option Addr) (yn yc : Nat), e = .returned (.tuple #[.agg #[.int .u8 y0, .int .u64 y1, .int .u64 y2, .int .u64 y3, .int .u64 y4, .slice yl yn yc], .int .i64 (rd.k : Int), .int .i64 (rd.err : Int)]) ∧ ReAt (New w.heap.size) w' (.agg #[.int .u8 y0, .int .u64 y1, .int .u64 y2, .int .u64 y3, .int .u64 y4, .slice yl yn yc]) rd.rx ∧ Below w.heap.size w w' := by
  obtain ⟨hb, h⟩ := h
  cases rd with
  | ok ex =>
    obtain ⟨v, he, hv⟩ := h
    obtain ⟨y0, y1, y2, y3, y4, yl, yn, yc, rfl⟩ := cells_re hv
    exact ⟨y0, y1, y2, y3, y4, yl, yn, yc, he, hv, hb⟩
  | no k err => exact ⟨0, 0, 0, 0, 0, none, 0, 0, h, bareAt _ _ 0 Ws.nil (by decide) Ws.nil_ok, hb⟩
theorem topR_ok (n : Nat) (res : PR) : (topR n res).isOk = decide ((topR n res).err = 0) := by
  unfold topR
  split
  · rfl
  · cases res with
    | bad r => rfl
    | ok e l =>
      simp only
      split
      · split <;> rfl
      · rfl
theorem ex_one : PX .alt [97, 40, 98, 124] (.bad []) := by
  refine PX.altBad (PX.rowMoreBad (a := .cls (rngW 97 97)) (l1 := [40, 98, 124]) (p := .cls (rngW 97 97)) (l2 := [40, 98, 124]) (PX.sign (notAt_cons (by decide)) (notAt_cons (by decide)) (notAt_cons (by decide)) rfl) rfl rfl ?_)
  refine PX.rowBad (PX.roundBad (notAt_cons (by decide)) ?_)
  refine PX.altMoreBad (e := .cls (rngW 98 98)) (l1 := []) (PX.rowOne (a := .cls (rngW 98 98)) (l1 := [124]) (PX.sign (notAt_cons (by decide)) (notAt_cons (by decide)) (notAt_cons (by decide)) rfl) rfl rfl) ?_
  exact PX.altBad (PX.rowBad (PX.signBad (notAt_nil _) (notAt_nil _) (notAt_nil _) rfl))
theorem ex_atom (c : UInt8) (l : List UInt8) (hc : sgn (c :: l) = .ok c.toNat l) (h1 : c ≠ 46) (h2 : c ≠ 91) (h3 : c ≠ 40) : PX .atom (c :: l) (.ok (.cls (rngW c.toNat c.toNat)) l) := PX.sign (notAt_cons h1) (notAt_cons h2) (notAt_cons h3) hc
theorem ex_two : ∃ e : Ex, e.size ≤ 10 ∧ PX .alt [97, 40, 98, 124, 99, 41, 97, 42] (.ok e []) := by
  have hbc : PX .alt [98, 124, 99, 41, 97, 42] (.ok (.alt (.cls (rngW 98 98)) (.cls (rngW 99 99))) [41, 97, 42]) :=
    PX.altMore (PX.rowOne (ex_atom 98 _ rfl (by decide) (by decide) (by decide)) rfl rfl) (PX.altOne (PX.rowOne (ex_atom 99 _ rfl (by decide) (by decide) (by decide)) rfl rfl) (notAt_cons (by decide)))
  have ha : PX .row [97, 42] (.ok (.star (.cls (rngW 97 97))) []) := PX.rowOne (ex_atom 97 _ rfl (by decide) (by decide) (by decide)) rfl rfl
  have hr : PX .row [40, 98, 124, 99, 41, 97, 42] (.ok (.seq (.alt (.cls (rngW 98 98)) (.cls (rngW 99 99))) (.star (.cls (rngW 97 97)))) []) :=
    PX.rowMore (PX.round (notAt_cons (by decide)) hbc) rfl rfl ha
  exact ⟨_, by decide, PX.altOne (PX.rowMore (ex_atom 97 _ rfl (by decide) (by decide) (by decide)) rfl rfl hr) (notAt_nil _)⟩
theorem rd_one : rdOf ⟨#[97, 40, 98, 124]⟩ = .no 4 2 := by
  rw [rdOf_px (res := .bad []) ex_one]; rfl
theorem rd_two : (rdOf ⟨#[97, 40, 98, 124, 99, 41, 97, 42]⟩).isOk = true := by
  obtain ⟨e, h1, h2⟩ := ex_two
  rw [rdOf_px (s := ⟨#[97, 40, 98, 124, 99, 41, 97, 42]⟩) h2]
  unfold topR
  rw [if_neg (by decide)]
  simp only [if_true]
  rw [if_pos (by omega)]
  rfl
end Go.Proofs.Ytmkjcbgcikgglaa
/- layer 6's example, and quilllaw06.ReadIs, walked. -/
namespace Go.Proofs.Ytmkjcbgcikgglaa
open Go.RowKit
def Awake6C : Prop := ∀ (w : World), Calls Try.prog 7 #[] w fun x w' => x = .returned (.bool true) ∧ Below w.heap.size w w'
set_option maxHeartbeats 2000000 in
theorem awake6_any (hRead : ReadC) (hForm : FormC) : Awake6C := by
  intro w
  have K1 := Lib.hid (hRead ⟨#[97, 40, 98, 124]⟩ w (by decide))
  rw [rd_one] at K1
  have K2 := Lib.hid (fun al W (h : StrsAt W al [⟨#[97, 40, 98, 124, 99, 41, 97, 42]⟩]) => hForm [⟨#[97, 40, 98, 124, 99, 41, 97, 42]⟩] al 1 W (by decide) (by intro s hs; simp at hs; subst hs; decide) h)
  have e2 : ([⟨#[97, 40, 98, 124, 99, 41, 97, 42]⟩] : List ByteArray).all (fun s => (rdOf s).isOk) = true := by simp [rd_two]
  rw [e2] at K2
  clear e2
  go_enter Try.func7, Try.ntmps7
  go_wp2_with fail
  refine K1.out.mono ?_
  rintro e w1 hp
  obtain ⟨y0, y1, y2, y3, y4, yl, yn, yc, k, err, r, rfl, -, hb1, -, rfl, rfl⟩ := hp.open
  clear hp
  have t1 : (((4 : Nat) : Int) == 4) = true := rfl
  have t2 : (((2 : Nat) : Int) == 2) = true := rfl
  go_wp2_with fail
  have hb2 := fun o o' => (hb1.alloc hb1.size o).alloc (by have := hb1.size; simp; omega) o'
  refine (K2.out _ _ (strs_one _ _ (by simp) _)).mono ?_
  rintro e w2 ⟨rfl, hb3⟩
  have hB := Lib.hid ((hb2 _ _).trans (hb3.mono (by have := hb1.size; simp; omega)))
  clear hb2 hb3
  go_wp2
  go_ret
  exact ⟨rfl, hB.out⟩
set_option maxHeartbeats 4000000 in
theorem readIs_walk (hRead : ReadC) (hForm : FormC) (s : ByteArray) (w : World) (hs : s.size ≤ maxLen) :
    Calls Try.prog 3 #[.string s] w fun e w' => e = .returned (.bool true) ∧ Below w.heap.size w w' := by
  have KA := Lib.hid (awake6_any hRead hForm)
  unfold maxLen at hs
  by_cases hbig : 1000 < s.size
  · have d0 : decide ((1000 : Int) < (s.size : Int)) = true := by simp; omega
    clear hRead hForm
    go_enter Try.func3, Try.ntmps3
    go_wp2_with fail
    refine (KA.out _).mono ?_
    rintro e w1 ⟨rfl, hb1⟩
    go_wp2
    go_ret
    exact ⟨rfl, hb1⟩
  · have d0 : decide ((1000 : Int) < (s.size : Int)) = false := by simp; omega
    have K1 := Lib.hid (fun W => hRead s W (by omega))
    have K2 := Lib.hid (fun W => refRead6 s W (by omega) _ (resOf_px s))
    have e2 : topR s.size (resOf s) = rdOf s := rfl
    have hok := topR_ok s.size (resOf s)
    rw [e2] at K2 hok
    have KF := Lib.hid (fun al W (h : StrsAt W al [s]) => hForm [s] al 1 W (by simp) (by intro t ht; simp at ht; subst ht; omega) h)
    have e3 : ([s] : List ByteArray).all (fun s => (rdOf s).isOk) = (rdOf s).isOk := by simp
    rw [e3, hok] at KF
    clear e2 e3 hRead hForm hok
    generalize rdOf s = rd at *
    go_enter Try.func3, Try.ntmps3
    go_wp2_with fail
    refine (K1.out _).mono ?_
    rintro e w1 hp
    obtain ⟨y0, y1, y2, y3, y4, yl, yn, yc, rfl, hv, hb1⟩ := hp.all
    clear hp
    have hA := Lib.hid (blk_new w1 (.cells #[.int .u8 y0, .int .u64 y1, .int .u64 y2, .int .u64 y3, .int .u64 y4, .slice yl yn yc] 28))
    have hvA := Lib.hid (hv.alloc (.cells #[.int .u8 y0, .int .u64 y1, .int .u64 y2, .int .u64 y3, .int .u64 y4, .slice yl yn yc] 28))
    have hbA := Lib.hid (hb1.alloc hb1.size (.cells #[.int .u8 y0, .int .u64 y1, .int .u64 y2, .int .u64 y3, .int .u64 y4, .slice yl yn yc] 28))
    have hs1 := hb1.size
    clear hv hb1
    go_wp2_with fail
    refine (K2.out _).mono ?_
    rintro e w2 hp
    obtain ⟨z0, z1, z2, z3, z4, zl, zn, zc, rfl, hv', hb2⟩ := hp.all
    have hl1 : w1.heap.size < (w1.alloc (.cells #[.int .u8 y0, .int .u64 y1, .int .u64 y2, .int .u64 y3, .int .u64 y4, .slice yl yn yc] 28)).heap.size := by simp
    have hA2 := (hb2.block _ hl1).trans hA.out
    have hl2 : w1.heap.size < w2.heap.size := Nat.lt_of_lt_of_le hl1 hb2.size
    have hbB := hbA.out.trans (hb2.mono hbA.out.size)
    have hvB := hvA.out.below hb2
    have KSM := Lib.hid (fun W (h : Below w2.heap.size w2 W) => refSame_any _ rd.rx rd.rx (Nat.le_refl _) _ _ W (hvB.below h) (hv'.below h))
    rw [(sameR_iff rd.rx rd.rx).2 rfl] at KSM
    obtain ⟨c0, c1, c2, c3, c4, c5, -⟩ := cellsR hA2
    have HBB := Lib.hid hbB
    have hs2 := hbB.size
    clear hp hv' hb2 hA2 hvB hbB hl1 hA hvA hbA
    generalize rd.k = k at *
    generalize rd.err = er at *
    generalize rd.rx = r at *
    have t1 : ((er : Int) == (er : Int)) = true := by simp
    have t2 : ((k : Int) == (k : Int)) = true := by simp
    have hbC := fun o => (Below.refl w2.heap.size w2).alloc (Nat.le_refl _) o
    go_wp2_with fail
    refine (KSM.out _ (hbC _)).mono ?_
    rintro e w3 ⟨rfl, hb3⟩
    have hbD := Lib.hid ((hbC _).trans (hb3.mono (by simp)))
    clear hb3 hbC c0 c1 c2 c3 c4 c5
    by_cases her : er = 0
    · have t3 : ((er : Int) == 0) = true := by simp [her]
      have t4 : decide (er = 0) = true := by simp [her]
      rw [t4] at KF
      clear her t4
      go_wp2_with fail
      refine (KF.out _ _ (strs_one _ _ rfl _)).mono ?_
      rintro e w4 ⟨rfl, hb4⟩
      have hbE := Lib.hid (((Below.refl w3.heap.size w3).alloc (Nat.le_refl _) (.cells #[.string s] 9)).trans (hb4.mono (by simp)))
      clear hb4
      go_wp2_with fail
      refine (KA.out _).mono ?_
      rintro e w5 ⟨rfl, hb5⟩
      have hB := Lib.hid (((HBB.out.trans (hbD.out.mono hs2)).trans (hbE.out.mono (Nat.le_trans hs2 hbD.out.size))).trans (hb5.mono (Nat.le_trans (Nat.le_trans hs2 hbD.out.size) hbE.out.size)))
      clear hb5
      go_wp2
      go_ret
      exact ⟨rfl, hB.out⟩
    · have t3 : ((er : Int) == 0) = false := by simp [her]
      have t4 : decide (er = 0) = false := by simp [her]
      rw [t4] at KF
      clear her t4
      go_wp2_with fail
      refine (KF.out _ _ (strs_one _ _ rfl _)).mono ?_
      rintro e w4 ⟨rfl, hb4⟩
      have hbE := Lib.hid (((Below.refl w3.heap.size w3).alloc (Nat.le_refl _) (.cells #[.string s] 9)).trans (hb4.mono (by simp)))
      clear hb4
      go_wp2_with fail
      refine (KA.out _).mono ?_
      rintro e w5 ⟨rfl, hb5⟩
      have hB := Lib.hid (((HBB.out.trans (hbD.out.mono hs2)).trans (hbE.out.mono (Nat.le_trans hs2 hbD.out.size))).trans (hb5.mono (Nat.le_trans (Nat.le_trans hs2 hbD.out.size) hbE.out.size)))
      clear hb5
      go_wp2
      go_ret
      exact ⟨rfl, hB.out⟩
end Go.Proofs.Ytmkjcbgcikgglaa
/- The landed reader's digit, sign, item, items: what is read, or the place that is thrown. -/
namespace Go.Proofs.Ytmkjcbgcikgglaa
open Go.RowKit
theorem hex_fin : ∀ n : Fin 256, hexErr ⟨#[48, UInt8.ofNat n.1]⟩ = (match hexV (UInt8.ofNat n.1) with | some _ => 0 | none => 2) ∧ hexBytes ⟨#[48, UInt8.ofNat n.1]⟩ = (match hexV (UInt8.ofNat n.1) with | some x => [UInt8.ofNat x] | none => []) := by decide +kernel
theorem hex_yes {c : UInt8} {x : Nat} (h : hexV c = some x) : hexErr ⟨#[48, c]⟩ = 0 ∧ hexBytes ⟨#[48, c]⟩ = [UInt8.ofNat x] := by
  have := hex_fin ⟨c.toNat, c.toNat_lt⟩
  simp only [UInt8.ofNat_toNat, h] at this
  exact this
theorem hex_no {c : UInt8} (h : hexV c = none) : hexErr ⟨#[48, c]⟩ = 2 ∧ hexBytes ⟨#[48, c]⟩ = [] := by
  have := hex_fin ⟨c.toNat, c.toNat_lt⟩
  simp only [UInt8.ofNat_toNat, h] at this
  exact this
theorem hex_none : hexErr ⟨#[48]⟩ = 2 ∧ hexBytes ⟨#[48]⟩ = [] := by decide +kernel
theorem but_below {w w' : World} (D : Nat) (h : Below w.heap.size w w') : But D w.heap.size w w' := But.of h
theorem but_trans {D : Nat} {w w1 w2 : World} (h : But D w.heap.size w w1) (k : But D w1.heap.size w1 w2) : But D w.heap.size w w2 := h.trans (k.mono h.size)
theorem RdB.at {w : World} {D : Nat} {s : ByteArray} {k : Nat} {vl : Value} (h : RdB w D s k vl) {j : Int} {m : Nat} (hj : j = (m : Int)) : RdB (w.setCell ⟨D, 1, none⟩ (.int .i64 j)) D s m vl := by
  subst hj; exact h.go m
theorem RdB.noByte {w : World} {D : Nat} {s : ByteArray} {k : Nat} {vl : Value} (h : RdB w D s k vl) {off : Nat} {x : Int} (hc : w.cell? ⟨D, off, none⟩ = some (.int .u8 x)) (hv : ∀ y, vl ≠ .int .u8 y) : False := by
  unfold RdB at h
  rw [Lib.cell_of_heap h] at hc
  match off, hc with
  | 0, hc => simp at hc
  | 1, hc => simp at hc
  | 2, hc => simp at hc; exact hv _ hc
  | n + 3, hc => simp at hc
/-- The digit at a place, if there is one. -/
def digV (l : List UInt8) : Option Nat := match l with
  | [] => none
  | c :: _ => hexV c
def hexS (l : List UInt8) : ByteArray := ⟨(48 :: l.take 1).toArray⟩
theorem digV_yes {l : List UInt8} {x : Nat} (h : digV l = some x) : hexErr (hexS l) = 0 ∧ hexBytes (hexS l) = [UInt8.ofNat x] := by
  cases l with
  | nil => cases h
  | cons c t => exact hex_yes h
theorem digV_no {l : List UInt8} (h : digV l = none) : hexErr (hexS l) = 2 ∧ hexBytes (hexS l) = [] := by
  cases l with
  | nil => exact hex_none
  | cons c t => exact hex_no h
theorem hexS_size (l : List UInt8) : (hexS l).size ≤ 2 := by
  unfold hexS
  show (48 :: l.take 1).toArray.size ≤ 2
  simp; omega
theorem hexS_add (l : List UInt8) : (⟨#[48]⟩ : ByteArray) ++ frS l = hexS l := by
  apply ByteArray.ext
  unfold hexS frS
  simp
theorem frS_size (l : List UInt8) : ¬ 9223372036854775807 < 1 + (frS l).size := by
  have : (frS l).size ≤ 1 := by
    unfold frS
    show (l.take 1).toArray.size ≤ 1
    simp; omega
  omega
set_option maxHeartbeats 1000000 in
theorem digit_yes {w : World} {D : Nat} {s : ByteArray} {k x : Nat} {vl : Value} (h : RdB w D s k vl) (hs : s.size ≤ 1000000000) (hk : k ≤ s.size) (hv : ∀ y, vl ≠ .int .u8 y) (hx : digV (tl s k) = some x) (hx16 : x < 16) :
    Calls Try.prog 50 #[.pointer (some ⟨D, 0, none⟩)] w fun e w' => e = .returned (.int .u8 x) ∧ RdB w' D s (k + 1) vl ∧ But D w.heap.size w w' := by
  have KF := Lib.hid (front_any h hs hk)
  obtain ⟨q1, q2⟩ := digV_yes hx
  have KH := Lib.hid fun W => readHex_any (hexS (tl s k)) W (by have := hexS_size (tl s k); unfold maxLen; omega) (by have := hexS_size (tl s k); omega)
  rw [q1, q2] at KH
  have H := Lib.hid h
  have hadd := hexS_add (tl s k)
  have hsz := frS_size (tl s k)
  have wk : IntKind.i64.wrap ((k : Int) + 1) = (k : Int) + 1 := by rw [IntKind.wrap_i64]; omega
  have KM := Lib.hid must_yes
  clear h hx q1 q2
  go_enter Try.func50, Try.ntmps50
  go_wp2_with fail
  refine KF.out.mono ?_
  rintro e w1 ⟨rfl, hb1⟩
  go_wp2_with fail
  refine (KH.out _).mono ?_
  rintro e w2 ⟨al, cp, rfl, hb2, hB⟩
  have hb := hb1.trans (hb2.mono hb1.size)
  have H2 := Lib.hid (H.out.below hb)
  have HB := Lib.hid hb
  have hbyte : (UInt8.ofNat x).toNat = x := UInt8.toNat_ofNat_of_lt' (by show x < 256; omega)
  obtain ⟨b, off, rfl, hlt, hc⟩ : ∃ b off, al = some ⟨b, off, none⟩ ∧ b < w2.heap.size ∧ w2.cell? ⟨b, off, none⟩ = some (.int .u8 x) := by
    obtain ⟨_, h | ⟨b, off, rfl, hlt, hc⟩⟩ := hB
    · simp at h
    · have := hc 0 (by simp)
      simp only [List.getElem_cons_zero, hbyte] at this
      exact ⟨b, off, rfl, hlt, this⟩
  have hbD : ¬ b = D := fun e => by subst e; exact H2.out.noByte hc hv
  have hbD' : ¬ D = b := fun e => hbD e.symm
  clear hb1 hb2 hB hb hbyte hadd hsz
  go_wp2_with fail
  refine (KM.out _ _).mono ?_
  rintro e w3 ⟨rfl, rfl⟩
  obtain ⟨c0, c1, c2⟩ := H2.out.cells
  obtain ⟨f0, f1, f2⟩ := H2.out.frozen
  go_wp2
  go_ret
  exact ⟨rfl, H2.out.go _, (But.of HB.out).set _ _⟩
set_option maxHeartbeats 1000000 in
theorem digit_no {w : World} {D : Nat} {s : ByteArray} {k : Nat} {vl : Value} (h : RdB w D s k vl) (hs : s.size ≤ 1000000000) (hk : k ≤ s.size) (hx : digV (tl s k) = none) :
    Calls Try.prog 50 #[.pointer (some ⟨D, 0, none⟩)] w fun e w' => e = thr k ∧ Below w.heap.size w w' := by
  have KF := Lib.hid (front_any h hs hk)
  obtain ⟨q1, q2⟩ := digV_no hx
  have KH := Lib.hid fun W => readHex_any (hexS (tl s k)) W (by have := hexS_size (tl s k); unfold maxLen; omega) (by have := hexS_size (tl s k); omega)
  rw [q1, q2] at KH
  have H := Lib.hid h
  have hadd := hexS_add (tl s k)
  have hsz := frS_size (tl s k)
  clear h hx q1 q2
  go_enter Try.func50, Try.ntmps50
  go_wp2_with fail
  refine KF.out.mono ?_
  rintro e w1 ⟨rfl, hb1⟩
  go_wp2_with fail
  refine (KH.out _).mono ?_
  rintro e w2 ⟨al, cp, rfl, hb2, hB⟩
  have hb := hb1.trans (hb2.mono hb1.size)
  have KM := Lib.hid (must_no (H.out.below hb))
  have HB := Lib.hid hb
  clear hb1 hb2 hB hb hadd hsz
  go_wp2_with fail
  refine KM.out.mono ?_
  rintro e w3 ⟨rfl, rfl⟩
  unfold thr
  go_wp2
  exact ⟨rfl, rfl, HB.out⟩
theorem tl_tail (s : ByteArray) (k : Nat) : (tl s k).tail = tl s (k + 1) := by unfold tl; rw [List.tail_drop]
theorem sgn_dig0 {l : List UInt8} (h : digV l = none) : sgn (92 :: l) = .bad l := by
  cases l with
  | nil => exact sgn_92_nil
  | cons d t => exact sgn_92_no t h
theorem sgn_dig1 {l : List UInt8} {x : Nat} (h : digV l = some x) (h' : digV l.tail = none) : sgn (92 :: l) = .bad l.tail := by
  cases l with
  | nil => cases h
  | cons d t => cases t with
    | nil => exact sgn_92_one h
    | cons d' u => exact sgn_92_two u h h'
theorem sgn_dig2 {l : List UInt8} {x y : Nat} (h : digV l = some x) (h' : digV l.tail = some y) : sgn (92 :: l) = .ok (16 * x + y) l.tail.tail := by
  cases l with
  | nil => cases h
  | cons d t => cases t with
    | nil => cases h'
    | cons d' u => exact sgn_92_yes u h h'
theorem digV_lt {l : List UInt8} {x : Nat} (h : digV l = some x) : x < 16 ∧ l ≠ [] := by
  cases l with
  | nil => cases h
  | cons d t => exact ⟨hexV_lt h, by simp⟩
/-- What sign answers. -/
def SgnPost (D : Nat) (s : ByteArray) (vl : Value) (w : World) (r : SR) (e : Ending) (w' : World) : Prop := But D w.heap.size w w' ∧ match r with
  | .ok b l1 => e = .returned (.int .u8 (b : Int)) ∧ RdB w' D s (s.size - l1.length) vl
  | .bad r => e = thr (s.size - r.length)
theorem sgnPost_bad {D : Nat} {s : ByteArray} {vl : Value} {w w' : World} {k : Nat} {e : Ending} (he : e = thr k) (hb : But D w.heap.size w w') (hk : k ≤ s.size) : SgnPost D s vl w (.bad (tl s k)) e w' := by
  refine ⟨hb, ?_⟩
  show e = thr _
  rw [he, tl_len, show s.size - (s.size - k) = k from by omega]
theorem sgnPost_ok {D : Nat} {s : ByteArray} {vl : Value} {w w' : World} {k b : Nat} {e : Ending} (he : e = .returned (.int .u8 (b : Int))) (hr : RdB w' D s k vl) (hb : But D w.heap.size w w') (hk : k ≤ s.size) : SgnPost D s vl w (.ok b (tl s k)) e w' := by
  refine ⟨hb, he, ?_⟩
  rw [tl_len, show s.size - (s.size - k) = k from by omega]; exact hr
/-- A text of one byte. -/
def OneB (f : ByteArray) (c : UInt8) : Prop := f = ⟨#[c]⟩
theorem frS_one (c : UInt8) (t : List UInt8) : OneB (frS (c :: t)) c := rfl
theorem OneB.list {f : ByteArray} {c : UInt8} (h : OneB f c) : f.toList = [c] := by
  rw [h, Go.ByteArray.toList_eq]
theorem OneB.size {f : ByteArray} {c : UInt8} (h : OneB f c) : 0 < f.size ∧ f.size = 1 := by
  rw [h]
  exact ⟨Nat.zero_lt_one, rfl⟩
theorem OneB.get {f : ByteArray} {c : UInt8} (h : OneB f c) (hs : 0 < f.size) : f[0] = c := by
  unfold OneB at h
  subst h
  rfl
theorem own1_fin : ∀ n : Fin 256, (signL n.1 == [UInt8.ofNat n.1]) = ownB (UInt8.ofNat n.1) := by decide +kernel
theorem sign_own1 (c : UInt8) : (signL c.toNat == [c]) = ownB c := by
  have := own1_fin ⟨c.toNat, c.toNat_lt⟩
  simpa using this
set_option maxHeartbeats 2000000 in
theorem rsign_end {w : World} {D : Nat} {s : ByteArray} {k : Nat} {vl : Value} (h : RdB w D s k vl) (hs : s.size ≤ 1000000000) (hk : k = s.size) :
    Calls Try.prog 35 #[.pointer (some ⟨D, 0, none⟩)] w (SgnPost D s vl w (sgn (tl s k))) := by
  have KF := Lib.hid (front_any h hs (by omega))
  have hz : tl s k = [] := tl_nil s k (by omega)
  have hsg : sgn (tl s k) = .bad (tl s k) := by rw [hz]; rfl
  rw [hsg]
  rw [hz] at KF
  have d1 : (frS []).toList = [] := by rw [Go.ByteArray.toList_eq]; rfl
  have H := Lib.hid h
  generalize frS [] = f at *
  have d2 : (f.toList == [92]) = false := by rw [d1]; rfl
  clear h hz hsg
  go_enter Try.func35, Try.ntmps35
  go_wp2_with fail
  refine KF.out.mono ?_
  rintro e w1 ⟨rfl, hb1⟩
  have KM := Lib.hid (must_no (H.out.below hb1))
  go_wp2_with fail
  refine KM.out.mono ?_
  rintro e w3 ⟨rfl, rfl⟩
  unfold thr
  go_wp2
  exact ⟨rfl, sgnPost_bad rfl (But.of hb1) (by omega)⟩
set_option maxHeartbeats 2000000 in
theorem rsign_own {w : World} {D : Nat} {s : ByteArray} {k : Nat} {vl : Value} (h : RdB w D s k vl) (hs : s.size ≤ 1000000000) (hk : k < s.size) (h92 : s[k] ≠ 92) :
    Calls Try.prog 35 #[.pointer (some ⟨D, 0, none⟩)] w (SgnPost D s vl w (sgn (tl s k))) := by
  have KF := Lib.hid (front_any h hs (by omega))
  have hz := tl_cons s k hk
  rw [hz] at KF
  have h1 := frS_one s[k] (tl s (k + 1))
  have hsg : sgn (tl s k) = if ownB s[k] = true then .ok s[k].toNat (tl s (k + 1)) else .bad (tl s k) := by rw [hz]; exact sgn_own _ _ h92
  rw [hsg]
  have H := Lib.hid h
  generalize frS (s[k] :: tl s (k + 1)) = f at *
  have hn := s[k].toNat_lt
  have HC := Lib.hid h1.list
  have d1 : (f.toList == [92]) = false := by rw [HC.out]; simp; exact h92
  have d2 : f.toList.isEmpty = false := by rw [HC.out]; rfl
  have d3 := h1.size.1
  have d4 : f[0].toNat = s[k].toNat := by rw [h1.get d3]
  have d5 : ¬ f.toList = [] := by rw [HC.out]; simp
  have KS := Lib.hid fun W => sign_any s[k].toNat W hn
  have wk : IntKind.i64.wrap ((k : Int) + 1) = (k : Int) + 1 := by rw [IntKind.wrap_i64]; omega
  clear h hz hsg h92
  cases ho : ownB s[k] with
  | true =>
    rw [if_pos rfl]
    have HO := Lib.hid ho
    clear ho
    go_enter Try.func35, Try.ntmps35
    go_wp2_with fail
    refine KF.out.mono ?_
    rintro e w1 ⟨rfl, hb1⟩
    go_wp2_with fail
    refine (KS.out _).mono ?_
    rintro e w2 ⟨rfl, hb2⟩
    have hb := hb1.trans (hb2.mono hb1.size)
    have HB := Lib.hid hb
    have H2 := Lib.hid (H.out.below hb)
    have d6 : (signL s[k].toNat == f.toList) = true := by rw [HC.out, sign_own1, HO.out]
    have KM := Lib.hid must_yes
    clear h1 hb hb1 hb2
    go_wp2_with fail
    refine (KM.out _ _).mono ?_
    rintro e w3 ⟨rfl, rfl⟩
    obtain ⟨c0, c1, c2⟩ := H2.out.cells
    obtain ⟨f0, f1, f2⟩ := H2.out.frozen
    go_wp2
    go_ret
    exact sgnPost_ok rfl (H2.out.go (k + 1)) ((But.of HB.out).set _ _) (by omega)
  | false =>
    rw [if_neg (by simp)]
    have HO := Lib.hid ho
    clear ho
    go_enter Try.func35, Try.ntmps35
    go_wp2_with fail
    refine KF.out.mono ?_
    rintro e w1 ⟨rfl, hb1⟩
    go_wp2_with fail
    refine (KS.out _).mono ?_
    rintro e w2 ⟨rfl, hb2⟩
    have hb := hb1.trans (hb2.mono hb1.size)
    have HB := Lib.hid hb
    have H2 := Lib.hid (H.out.below hb)
    have d6 : (signL s[k].toNat == f.toList) = false := by rw [HC.out, sign_own1, HO.out]
    have KM := Lib.hid (must_no H2.out)
    clear h1 hb hb1 hb2
    go_wp2_with fail
    refine KM.out.mono ?_
    rintro e w3 ⟨rfl, rfl⟩
    unfold thr
    go_wp2
    exact ⟨rfl, sgnPost_bad rfl (But.of HB.out) (by omega)⟩
set_option maxHeartbeats 2000000 in
theorem rsign_hex {w : World} {D : Nat} {s : ByteArray} {k : Nat} {vl : Value} (h : RdB w D s k vl) (hs : s.size ≤ 1000000000) (hk : k < s.size) (hv : ∀ y, vl ≠ .int .u8 y) (h92 : s[k] = 92) :
    Calls Try.prog 35 #[.pointer (some ⟨D, 0, none⟩)] w (SgnPost D s vl w (sgn (tl s k))) := by
  have KF := Lib.hid (front_any h hs (by omega))
  have hz := tl_cons s k hk
  rw [hz, h92] at KF
  rw [hz, h92]
  have h1 := frS_one 92 (tl s (k + 1))
  have H := Lib.hid h
  generalize frS (92 :: tl s (k + 1)) = f at *
  have d1 : (f.toList == [92]) = true := by rw [h1.list]; rfl
  have wk : IntKind.i64.wrap ((k : Int) + 1) = (k : Int) + 1 := by rw [IntKind.wrap_i64]; omega
  have ht := tl_tail s (k + 1)
  clear h hz h92 h1
  cases hx : digV (tl s (k + 1)) with
  | none =>
    rw [sgn_dig0 hx]
    have HX := Lib.hid hx
    clear hx ht
    go_enter Try.func35, Try.ntmps35
    go_wp2_with fail
    refine KF.out.mono ?_
    rintro e w1 ⟨rfl, hb1⟩
    have H1 := Lib.hid (H.out.below hb1)
    obtain ⟨c0, c1, c2⟩ := H1.out.cells
    obtain ⟨f0, f1, f2⟩ := H1.out.frozen
    have KD := Lib.hid (digit_no (H1.out.go (k + 1)) hs (by omega) HX.out)
    go_wp2_with fail
    refine KD.out.mono ?_
    rintro e w2 ⟨rfl, hb2⟩
    unfold thr
    go_wp2
    exact ⟨rfl, sgnPost_bad rfl (but_trans ((But.of hb1).set _ _) (But.of hb2)) (by omega)⟩
  | some x =>
    obtain ⟨hx16, hne⟩ := digV_lt hx
    have hk2 : k + 1 < s.size := by
      rcases Nat.lt_or_ge (k + 1) s.size with h | h
      · exact h
      · exact absurd (tl_nil s _ h) hne
    cases hy : digV (tl s (k + 2)) with
    | none =>
      rw [sgn_dig1 hx (by rw [ht]; exact hy), ht]
      have HX := Lib.hid hx
      have HY := Lib.hid hy
      clear hx ht hy hne
      go_enter Try.func35, Try.ntmps35
      go_wp2_with fail
      refine KF.out.mono ?_
      rintro e w1 ⟨rfl, hb1⟩
      have H1 := Lib.hid (H.out.below hb1)
      obtain ⟨c0, c1, c2⟩ := H1.out.cells
      obtain ⟨f0, f1, f2⟩ := H1.out.frozen
      have KD := Lib.hid (digit_yes (H1.out.go (k + 1)) hs (by omega) hv HX.out hx16)
      have BT := Lib.hid ((But.of hb1).set (g := D) 1 (.int .i64 ((k + 1 : Nat) : Int)))
      clear hb1
      go_wp2_with fail
      refine KD.out.mono ?_
      rintro e w2 ⟨rfl, hr2, hb2⟩
      have KE := Lib.hid (digit_no hr2 hs (by omega) HY.out)
      have BT2 := Lib.hid (but_trans BT.out hb2)
      clear hr2 hb2 c0 c1 c2 f0 f1 f2
      go_wp2_with fail
      refine KE.out.mono ?_
      rintro e w3 ⟨rfl, hb3⟩
      unfold thr
      go_wp2
      exact ⟨rfl, sgnPost_bad rfl (but_trans BT2.out (But.of hb3)) (by omega)⟩
    | some y =>
      obtain ⟨hy16, hne2⟩ := digV_lt hy
      have hk3 : k + 2 < s.size := by
        rcases Nat.lt_or_ge (k + 2) s.size with h | h
        · exact h
        · exact absurd (tl_nil s _ h) hne2
      rw [sgn_dig2 hx (by rw [ht]; exact hy), ht, tl_tail]
      have w16 : IntKind.u8.wrap (16 * (x : Int)) = 16 * (x : Int) := by rw [IntKind.wrap_u8]; omega
      have w17 : IntKind.u8.wrap (16 * (x : Int) + (y : Int)) = ((16 * x + y : Nat) : Int) := by rw [IntKind.wrap_u8]; omega
      have HX := Lib.hid hx
      have HY := Lib.hid hy
      clear hx ht hy hne hne2
      go_enter Try.func35, Try.ntmps35
      go_wp2_with fail
      refine KF.out.mono ?_
      rintro e w1 ⟨rfl, hb1⟩
      have H1 := Lib.hid (H.out.below hb1)
      obtain ⟨c0, c1, c2⟩ := H1.out.cells
      obtain ⟨f0, f1, f2⟩ := H1.out.frozen
      have KD := Lib.hid (digit_yes (H1.out.go (k + 1)) hs (by omega) hv HX.out hx16)
      have BT := Lib.hid ((But.of hb1).set (g := D) 1 (.int .i64 ((k + 1 : Nat) : Int)))
      clear hb1
      go_wp2_with fail
      refine KD.out.mono ?_
      rintro e w2 ⟨rfl, hr2, hb2⟩
      have KE := Lib.hid (digit_yes hr2 hs (by omega) hv HY.out hy16)
      have BT2 := Lib.hid (but_trans BT.out hb2)
      clear hr2 hb2 c0 c1 c2 f0 f1 f2
      go_wp2_with fail
      refine KE.out.mono ?_
      rintro e w3 ⟨rfl, hr3, hb3⟩
      have HR3 := Lib.hid hr3
      have BT3 := Lib.hid (but_trans BT2.out hb3)
      clear hr3 hb3
      go_wp2
      go_ret
      exact sgnPost_ok (by simp) HR3.out BT3.out (by omega)
theorem rsign_any {w : World} {D : Nat} {s : ByteArray} {k : Nat} {vl : Value} (h : RdB w D s k vl) (hs : s.size ≤ 1000000000) (hk : k ≤ s.size) (hv : ∀ y, vl ≠ .int .u8 y) :
    Calls Try.prog 35 #[.pointer (some ⟨D, 0, none⟩)] w (SgnPost D s vl w (sgn (tl s k))) := by
  by_cases hlt : k < s.size
  · by_cases h92 : s[k] = 92
    · exact rsign_hex h hs hlt hv h92
    · exact rsign_own h hs hlt h92
  · exact rsign_end h hs (by omega)
end Go.Proofs.Ytmkjcbgcikgglaa
/- The landed reader's item, items: what is read, or the place that is thrown. -/
namespace Go.Proofs.Ytmkjcbgcikgglaa
open Go.RowKit
theorem lpos {s : ByteArray} {i : Nat} {l : List UInt8} (h : l <:+ tl s i) : ∃ k, k ≤ s.size ∧ s.size - l.length = k ∧ l = tl s k ∧ l.length = s.size - k := by
  obtain ⟨h1, h2⟩ := tl_suffix h
  exact ⟨s.size - l.length, by omega, rfl, h1, by omega⟩
theorem pcons {s : ByteArray} {i : Nat} {c : UInt8} {t : List UInt8} (h : tl s i = c :: t) : i < s.size ∧ tl s (i + 1) = t ∧ ∃ hi : i < s.size, s[i] = c := by
  have hi : i < s.size := by
    rcases Nat.lt_or_ge i s.size with h' | h'
    · exact h'
    · rw [tl_nil s i h'] at h; cases h
  rw [tl_cons s i hi] at h
  cases h
  exact ⟨hi, rfl, hi, rfl⟩
/-- What an item is: a set, and what is left. -/
inductive IR where
  | ok (s : Ws) (l : List UInt8)
  | bad (l : List UInt8)
def itemR (l : List UInt8) : IR := match sgn l with
  | .bad r => .bad r
  | .ok b l1 => match l1 with
    | [] => .ok (rngW b b) []
    | c :: l2 => if c = 45 then (match sgn l2 with
      | .bad r => .bad r
      | .ok b' l3 => if b' < b then .bad l2 else .ok (rngW b b') l3) else .ok (rngW b b) (c :: l2)
theorem item_bad1 {l r : List UInt8} (h : sgn l = .bad r) : itemR l = .bad r := by unfold itemR; rw [h]
theorem item_one {l l1 : List UInt8} {b : Nat} (h : sgn l = .ok b l1) (hn : NotAt 45 l1) : itemR l = .ok (rngW b b) l1 := by
  unfold itemR; rw [h]
  cases l1 with
  | nil => rfl
  | cons c t =>
    have : ¬ c = 45 := fun e => hn t (by rw [e])
    simp only [if_neg this]
theorem item_bad2 {l l2 r : List UInt8} {b : Nat} (h : sgn l = .ok b (45 :: l2)) (h2 : sgn l2 = .bad r) : itemR l = .bad r := by
  unfold itemR; rw [h]; simp only [if_true, h2]
theorem item_less {l l2 l3 : List UInt8} {b b' : Nat} (h : sgn l = .ok b (45 :: l2)) (h2 : sgn l2 = .ok b' l3) (hl : b' < b) : itemR l = .bad l2 := by
  unfold itemR; rw [h]; simp only [if_true, h2, if_pos hl]
theorem item_range {l l2 l3 : List UInt8} {b b' : Nat} (h : sgn l = .ok b (45 :: l2)) (h2 : sgn l2 = .ok b' l3) (hl : b ≤ b') : itemR l = .ok (rngW b b') l3 := by
  have : ¬ b' < b := by omega
  unfold itemR; rw [h]; simp only [if_true, h2, if_neg this]
def ItemPost (D : Nat) (s : ByteArray) (vl : Value) (w : World) (r : IR) (e : Ending) (w' : World) : Prop := But D w.heap.size w w' ∧ match r with
  | .ok q l1 => e = .returned q.v ∧ RdB w' D s (s.size - l1.length) vl
  | .bad r => e = thr (s.size - r.length)
theorem item_done {D : Nat} {s : ByteArray} {vl : Value} {w w3 : World} {q : Ws} {l1 : List UInt8} {k1 g : Nat} {e : Ending} {v0 v1 v2 v3 : Value} (hp : s.size - l1.length = k1) (hg : D < g) (hb : But D w.heap.size w w3) (hr : RdB w3 D s k1 vl) (he : e = .returned q.v) (hge : w.heap.size ≤ g) :
    ItemPost D s vl w (.ok q l1) e ((((w3.setCell ⟨g, 0, none⟩ v0).setCell ⟨g, 1, none⟩ v1).setCell ⟨g, 2, none⟩ v2).setCell ⟨g, 3, none⟩ v3) := by
  have hk : ∀ b, b ≠ g → ((((w3.setCell ⟨g, 0, none⟩ v0).setCell ⟨g, 1, none⟩ v1).setCell ⟨g, 2, none⟩ v2).setCell ⟨g, 3, none⟩ v3).heap[b]? = w3.heap[b]? := fun b h => by
    rw [Below.heap_setCell _ _ _ _ h, Below.heap_setCell _ _ _ _ h, Below.heap_setCell _ _ _ _ h, Below.heap_setCell _ _ _ _ h]
  refine ⟨⟨hb.os, hb.tape, hb.output, by simpa [World.setCell] using hb.size, fun b h1 h2 => (hk b (by omega)).trans (hb.block b h1 h2)⟩, he, ?_⟩
  rw [hp]
  exact hr.of (hk D (by omega))
theorem ret_one (b : Nat) (hb : b < 256) : ofN (natsOf [UInt8.ofNat b]) = rngW b b := by
  have : (UInt8.ofNat b).toNat = b := UInt8.toNat_ofNat_of_lt' (by show b < 256; omega)
  unfold rngW natsOf
  rw [show b + 1 - b = 1 from by omega]
  simp [this, List.range']
set_option maxHeartbeats 2000000 in
theorem item_any {w : World} {D : Nat} {s : ByteArray} {k : Nat} {vl : Value} (h : RdB w D s k vl) (hs : s.size ≤ 1000000000) (hk : k ≤ s.size) (hv : ∀ y, vl ≠ .int .u8 y) :
    Calls Try.prog 49 #[.pointer (some ⟨D, 0, none⟩)] w (ItemPost D s vl w (itemR (tl s k))) := by
  have hD := h.lt
  have h0 : Below w.heap.size w (w.alloc (.cells #[.int .u64 0, .int .u64 0, .int .u64 0, .int .u64 0] 25)) := (Below.refl _ w).alloc (Nat.le_refl _) _
  have KS := Lib.hid (rsign_any (h.below h0) hs hk hv)
  cases hsg : sgn (tl s k) with
  | bad r =>
    rw [hsg] at KS
    rw [item_bad1 hsg]
    clear hsg h
    go_enter Try.func49, Try.ntmps49
    go_wp2_with fail
    refine KS.out.mono ?_
    rintro e w1 ⟨hb1, he⟩
    simp only at he
    subst he
    unfold thr
    go_wp2
    exact ⟨rfl, but_trans (But.of h0) hb1, rfl⟩
  | ok b l1 =>
    rw [hsg] at KS
    obtain ⟨hb256, hsuf, hll⟩ := sgn_ok hsg
    obtain ⟨k1, hk1, hpos1, hl1, hln1⟩ := lpos hsuf
    have hbyte : (UInt8.ofNat b).toNat = b := UInt8.toNat_ofNat_of_lt' (by show b < 256; omega)
    have hwk : IntKind.i64.wrap ((k1 : Int) + 1) = (k1 : Int) + 1 := by rw [IntKind.wrap_i64]; omega
    have HSG := Lib.hid hsg
    have HL1 := Lib.hid hl1
    have h0b : (w.alloc (.cells #[.int .u64 0, .int .u64 0, .int .u64 0, .int .u64 0] 25)).heap[w.heap.size]? = some (.cells #[.int .u64 0, .int .u64 0, .int .u64 0, .int .u64 0] 25) := blk_new w _
    rcases notAt_or 45 l1 with h45 | ⟨l2, h45⟩
    · rw [item_one hsg h45]
      have hfr : (frS l1).toList = [] ∨ ∃ c, c ≠ 45 ∧ OneB (frS l1) c := by
        cases l1 with
        | nil => left; rw [Go.ByteArray.toList_eq]; rfl
        | cons c t => exact .inr ⟨c, fun e => h45 t (by rw [e]), frS_one c t⟩
      have d1 : ((frS (tl s k1)).toList == [45]) = false := by
        rw [← hl1]
        rcases hfr with e | ⟨c, hc, e⟩
        · rw [e]; rfl
        · rw [e.list]; simp; exact hc
      clear hsg h hl1 hsuf hfr h45 h0b
      go_enter Try.func49, Try.ntmps49
      go_wp2_with fail
      refine KS.out.mono ?_
      rintro e w1 ⟨hb1, he, hr1⟩
      subst he
      rw [hpos1] at hr1
      have KF := Lib.hid (front_any hr1 hs hk1)
      have HR1 := Lib.hid hr1
      have BT1 := Lib.hid (but_trans (But.of h0) hb1)
      have hx1 : Box w1 w.heap.size Ws.nil := (hb1.block _ (by simp) (by omega)).trans (blk_new w _)
      have HX1 := Lib.hid hx1
      clear hr1 hb1 hx1
      generalize frS (tl s k1) = f at *
      go_wp2_with fail
      refine KF.out.mono ?_
      rintro e w2 ⟨rfl, hb2⟩
      have BT2 := Lib.hid (but_trans BT1.out (But.of hb2))
      have HR2 := Lib.hid (HR1.out.below hb2)
      have HX2 := Lib.hid (HX1.out.below hb2 HX1.out.lt)
      have KO := Lib.hid (setOf_any (some ⟨w2.heap.size, 0, none⟩) [UInt8.ofNat b] 1 (w2.alloc (.cells #[.int .u8 (b : Int)] 5)) (one_byte w2 b hb256))
      rw [ret_one b hb256] at KO
      clear hb2
      go_wp2_with fail
      refine KO.out.mono ?_
      rintro e w3 ⟨rfl, hb3⟩
      have hba : Below w2.heap.size w2 w3 := ((Below.refl _ w2).alloc (Nat.le_refl _) _).trans (hb3.mono (by simp))
      have BT3 := Lib.hid (but_trans BT2.out (But.of hba))
      have HR3 := Lib.hid (HR2.out.below hba)
      have hx3 := HX2.out.below hba HX2.out.lt
      clear hba hb3
      obtain ⟨⟨c0, c1, c2, c3⟩, f0, f1, f2, f3⟩ := hx3.all
      simp only [Ws.nil] at c0 c1 c2 c3
      generalize rngW b b = q at *
      obtain ⟨qa, qb, qc, qd⟩ := q
      unfold Ws.v
      go_wp2
      exact ret_box (hx3.put4 _ _ _ _) Try.results49 rfl rfl (item_done hpos1 (by omega) BT3.out HR3.out rfl (Nat.le_refl _))
    · subst h45
      obtain ⟨hk1', htl2, hk1'', hc45⟩ := pcons HL1.out.symm
      have hln2 : l2.length = s.size - (k1 + 1) := by rw [← htl2, tl_len]
      have hfr := frS_one 45 l2
      have d1 : ((frS (tl s k1)).toList == [45]) = true := by rw [← hl1, hfr.list]; rfl
      cases hsg2 : sgn l2 with
      | bad r =>
        rw [item_bad2 hsg hsg2]
        have HSG2 := Lib.hid (show sgn (tl s (k1 + 1)) = .bad r from by rw [htl2]; exact hsg2)
        clear hsg hsg2 h hl1 hsuf hfr h0b htl2 hc45 hk1''
        go_enter Try.func49, Try.ntmps49
        go_wp2_with fail
        refine KS.out.mono ?_
        rintro e w1 ⟨hb1, he, hr1⟩
        subst he
        rw [hpos1] at hr1
        have KF := Lib.hid (front_any hr1 hs hk1)
        have HR1 := Lib.hid hr1
        have BT1 := Lib.hid (but_trans (But.of h0) hb1)
        clear hr1 hb1
        generalize frS (tl s k1) = f at *
        go_wp2_with fail
        refine KF.out.mono ?_
        rintro e w2 ⟨rfl, hb2⟩
        have hr2 := HR1.out.below hb2
        obtain ⟨c0, c1, c2⟩ := hr2.cells
        obtain ⟨f0, f1, f2⟩ := hr2.frozen
        have hr3 := hr2.go (k1 + 1)
        obtain ⟨g0, g1, g2⟩ := hr3.cells
        have BT3 := Lib.hid ((but_trans BT1.out (But.of hb2)).set 1 (.int .i64 ((k1 + 1 : Nat) : Int)))
        have KS2 := Lib.hid (rsign_any hr3 hs (by omega) hv)
        rw [HSG2.out] at KS2
        clear hr2 hr3 hb2
        go_wp2_with fail
        refine KS2.out.mono ?_
        rintro e w4 ⟨hb4, he⟩
        simp only at he
        subst he
        unfold thr
        go_wp2
        exact ⟨rfl, but_trans BT3.out hb4, rfl⟩
      | ok b' l3 =>
        obtain ⟨hb256', hsuf2, hll2⟩ := sgn_ok hsg2
        obtain ⟨k3, hk3, hpos3, hl3, hln3⟩ := lpos (s := s) (i := k1 + 1) (by rw [htl2]; exact hsuf2)
        have HSG2 := Lib.hid (show sgn (tl s (k1 + 1)) = .ok b' l3 from by rw [htl2]; exact hsg2)
        by_cases hless : b' < b
        · rw [item_less hsg hsg2 hless]
          have q1 : decide ((b' : Int) < (b : Int)) = true := by simp; omega
          have q2 : decide (b' < b) = true := by simp; omega
          clear hsg hsg2 h hl1 hsuf hfr h0b htl2 hc45 hk1'' hsuf2 hl3
          go_enter Try.func49, Try.ntmps49
          go_wp2_with fail
          refine KS.out.mono ?_
          rintro e w1 ⟨hb1, he, hr1⟩
          subst he
          rw [hpos1] at hr1
          have KF := Lib.hid (front_any hr1 hs hk1)
          have HR1 := Lib.hid hr1
          have BT1 := Lib.hid (but_trans (But.of h0) hb1)
          clear hr1 hb1
          generalize frS (tl s k1) = f at *
          go_wp2_with fail
          refine KF.out.mono ?_
          rintro e w2 ⟨rfl, hb2⟩
          have hr2 := HR1.out.below hb2
          obtain ⟨c0, c1, c2⟩ := hr2.cells
          obtain ⟨f0, f1, f2⟩ := hr2.frozen
          have hr3 := hr2.go (k1 + 1)
          obtain ⟨g0, g1, g2⟩ := hr3.cells
          have BT3 := Lib.hid ((but_trans BT1.out (But.of hb2)).set 1 (.int .i64 ((k1 + 1 : Nat) : Int)))
          have KS2 := Lib.hid (rsign_any hr3 hs (by omega) hv)
          rw [HSG2.out] at KS2
          clear hr2 hr3 hb2
          go_wp2_with fail
          refine KS2.out.mono ?_
          rintro e w4 ⟨hb4, he, hr4⟩
          subst he
          have BT4 := Lib.hid (but_trans BT3.out hb4)
          clear hr4 hb4 hless
          go_wp2
          refine ⟨rfl, BT4.out, ?_⟩
          show _ = thr (s.size - l2.length)
          rw [hln2, show s.size - (s.size - (k1 + 1)) = k1 + 1 from by omega]
          rfl
        · rw [item_range hsg hsg2 (by omega)]
          have q1 : decide ((b' : Int) < (b : Int)) = false := by simp; omega
          have q2 : decide (b' < b) = false := by simp; omega
          have KR := Lib.hid fun W => range_any b b' W hb256 hb256'
          clear hsg hsg2 h hl1 hsuf hfr h0b htl2 hc45 hk1'' hsuf2 hl3
          go_enter Try.func49, Try.ntmps49
          go_wp2_with fail
          refine KS.out.mono ?_
          rintro e w1 ⟨hb1, he, hr1⟩
          subst he
          rw [hpos1] at hr1
          have KF := Lib.hid (front_any hr1 hs hk1)
          have HR1 := Lib.hid hr1
          have BT1 := Lib.hid (but_trans (But.of h0) hb1)
          have hx1 : Box w1 w.heap.size Ws.nil := (hb1.block _ (by simp) (by omega)).trans (blk_new w _)
          clear hr1 hb1
          generalize frS (tl s k1) = f at *
          have HX1 := Lib.hid hx1
          clear hx1
          go_wp2_with fail
          refine KF.out.mono ?_
          rintro e w2 ⟨rfl, hb2⟩
          have hr2 := HR1.out.below hb2
          obtain ⟨c0, c1, c2⟩ := hr2.cells
          obtain ⟨f0, f1, f2⟩ := hr2.frozen
          have hr3 := hr2.go (k1 + 1)
          obtain ⟨g0, g1, g2⟩ := hr3.cells
          have BT3 := Lib.hid ((but_trans BT1.out (But.of hb2)).set 1 (.int .i64 ((k1 + 1 : Nat) : Int)))
          have HX3 := Lib.hid ((HX1.out.below hb2 HX1.out.lt).far (p := ⟨D, 1, none⟩) (show w.heap.size ≠ D from by omega) (.int .i64 ((k1 + 1 : Nat) : Int)))
          have KS2 := Lib.hid (rsign_any hr3 hs (by omega) hv)
          rw [HSG2.out] at KS2
          clear hr2 hr3 hb2
          go_wp2_with fail
          refine KS2.out.mono ?_
          rintro e w4 ⟨hb4, he, hr4⟩
          subst he
          have BT4 := Lib.hid (but_trans BT3.out hb4)
          have HX4 := Lib.hid (show Box w4 w.heap.size Ws.nil from (hb4.block _ HX3.out.lt (by omega)).trans HX3.out)
          rw [hpos3] at hr4
          have HR4 := Lib.hid hr4
          clear hr4 hb4 hless c0 c1 c2 f0 f1 f2 g0 g1 g2
          go_wp2_with fail
          refine (KR.out _).mono ?_
          rintro e w5 ⟨rfl, hb5⟩
          have BT5 := Lib.hid (but_trans BT4.out (But.of hb5))
          have HR5 := Lib.hid (HR4.out.below hb5)
          have hx5 := HX4.out.below hb5 HX4.out.lt
          have hrg : rangeW b b' = rngW b b' := rfl
          rw [hrg]
          clear hb5 hrg
          obtain ⟨⟨c0, c1, c2, c3⟩, f0, f1, f2, f3⟩ := hx5.all
          simp only [Ws.nil] at c0 c1 c2 c3
          generalize rngW b b' = q at *
          obtain ⟨qa, qb, qc, qd⟩ := q
          unfold Ws.v
          go_wp2
          exact ret_box (hx5.put4 _ _ _ _) Try.results49 rfl rfl (item_done hpos3 (by omega) BT5.out HR5.out rfl (Nat.le_refl _))
end Go.Proofs.Ytmkjcbgcikgglaa
/- What Read answers of texts that are shown, put in round brackets, or many letters. -/
namespace Go.Proofs.Ytmkjcbgcikgglaa
theorem rd_ok {s : ByteArray} {e : Ex} (h : rdOf s = .ok e) : PX .alt s.data.toList (.ok e []) ∧ e.Wf ∧ e.size ≤ 2000 ∧ s.size ≤ 65536 := by
  have hp := resOf_px s
  unfold rdOf topR at h
  split at h
  · cases h
  · rename_i hb
    cases hr : resOf s with
    | bad r => rw [hr] at h; cases h
    | ok e' l =>
      rw [hr] at h hp
      simp only at h
      split at h
      · rename_i hl
        split at h
        · rename_i hz
          cases h
          subst hl
          exact ⟨hp, hp.fact.1, hz, by omega⟩
        · cases h
      · cases h
theorem rd_of {s : ByteArray} {e : Ex} (h : PX .alt s.data.toList (.ok e [])) (hs : s.size ≤ 65536) (he : e.size ≤ 2000) : rdOf s = .ok e := by
  rw [rdOf_px h]
  unfold topR
  rw [if_neg (by omega)]
  simp only [if_true]
  rw [if_pos he]
theorem rd_great {s : ByteArray} {e : Ex} (h : PX .alt s.data.toList (.ok e [])) (hs : s.size ≤ 65536) (he : 2000 < e.size) : rdOf s = .no 0 4 := by
  rw [rdOf_px h]
  unfold topR
  rw [if_neg (by omega)]
  simp only [if_true]
  rw [if_neg (by omega)]
theorem rd_long {s : ByteArray} (hs : 65536 < s.size) : rdOf s = .no 0 3 := by
  unfold rdOf topR
  rw [if_pos hs]
theorem rd_back {e : Ex} (we : e.Wf) (hs : e.size ≤ 2000) (ht : e.text.length ≤ 65536) : rdOf ⟨e.text.toArray⟩ = .ok e :=
  rd_of (s := ⟨e.text.toArray⟩) (text_read we) (by show e.text.toArray.size ≤ _; simpa using ht) hs
/-- What was read of a short text is shown, and read again, as it is. -/
theorem rd_again {s : ByteArray} {e : Ex} (h : rdOf s = .ok e) (hs : s.size ≤ 1000) : rdOf ⟨e.text.toArray⟩ = .ok e := by
  obtain ⟨h1, h2, h3, _⟩ := rd_ok h
  have hb := h1.brief
  have hl : s.data.toList.length = s.size := by simp
  simp only [Brief, List.length_nil, hl] at hb
  exact rd_back h2 h3 (by omega)
theorem app_list (a b : ByteArray) : (a ++ b).data.toList = a.data.toList ++ b.data.toList := by simp
theorem rd_alone {s : ByteArray} {a : Ex} (h : rdOf s = .ok a) (hs : s.size ≤ 1000) : rdOf ((⟨#[40]⟩ : ByteArray) ++ s ++ ⟨#[41]⟩) = .ok a := by
  obtain ⟨h1, h2, h3, _⟩ := rd_ok h
  refine rd_of ?_ ?_ h3
  · rw [app_list, app_list]
    have := read_alone h1
    simpa using this
  · rw [ByteArray.size_append, ByteArray.size_append]
    show 1 + s.size + 1 ≤ 65536
    omega
theorem rd_both {s t : ByteArray} {a b : Ex} (h : rdOf s = .ok a) (h' : rdOf t = .ok b) (hs : s.size ≤ 200) (ht : t.size ≤ 200) : rdOf ((⟨#[40]⟩ : ByteArray) ++ s ++ ⟨#[41, 124, 40]⟩ ++ t ++ ⟨#[41]⟩) = .ok (.alt a b) := by
  obtain ⟨h1, h2, h3, _⟩ := rd_ok h
  obtain ⟨k1, k2, k3, _⟩ := rd_ok h'
  have f1 := h1.fact.2.2.2
  have f2 := k1.fact.2.2.2
  have hl : s.data.toList.length = s.size := by simp
  have hl' : t.data.toList.length = t.size := by simp
  rw [hl] at f1
  rw [hl'] at f2
  simp only [List.length_nil, Nat.sub_zero] at f1 f2
  refine rd_of ?_ ?_ (by simp only [Ex.size]; omega)
  · rw [app_list, app_list, app_list, app_list]
    have := read_both h1 k1
    simpa using this
  · rw [ByteArray.size_append, ByteArray.size_append, ByteArray.size_append, ByteArray.size_append]
    show 1 + s.size + 3 + t.size + 1 ≤ 65536
    omega
/-- Many letters: refused as too long, refused as too great, or read. -/
theorem rd_many (n : Nat) : (65536 < n + 1 → rdOf ⟨(List.replicate (n + 1) 97).toArray⟩ = .no 0 3) ∧ (n + 1 ≤ 65536 → 1000 < n + 1 → rdOf ⟨(List.replicate (n + 1) 97).toArray⟩ = .no 0 4) ∧ (n + 1 ≤ 1000 → ∃ e, rdOf ⟨(List.replicate (n + 1) 97).toArray⟩ = .ok e) := by
  obtain ⟨e, h1, h2⟩ := many_a_alt n
  have hsz : (⟨(List.replicate (n + 1) 97).toArray⟩ : ByteArray).size = n + 1 := by show (List.replicate (n + 1) (97 : UInt8)).toArray.size = _; simp
  refine ⟨fun h => rd_long (by rw [hsz]; exact h), fun h h' => rd_great (s := ⟨(List.replicate (n + 1) 97).toArray⟩) h2 (by rw [hsz]; exact h) (by omega), fun h => ⟨e, rd_of (s := ⟨(List.replicate (n + 1) 97).toArray⟩) h2 (by rw [hsz]; omega) (by omega)⟩⟩
end Go.Proofs.Ytmkjcbgcikgglaa
/- quilllaw06.ReadMost, walked. -/
namespace Go.Proofs.Ytmkjcbgcikgglaa
open Go.RowKit
theorem byteInfo : (Try.prog.info? 5).map (fun i => (i.zero, i.size, i.bytes)) = some (some (.int .u8 0), 1, 1) := by kernel_rfl
theorem make_b (n : Nat) (hn : n < 1000000) (u : World) : (Instr.makeSlice 41 (.int .i64 (n : Int)) (.int .i64 (n : Int))).run Try.prog u =
    .ok (.slice (some ⟨u.heap.size, 0, none⟩) n n) (u.alloc (.cells (madeCells #[.int .u8 0] n) 5)) := by
  obtain ⟨i0, hi, hz0, hz1, hz2⟩ := info_parts byteInfo
  have h := run_make (P := Try.prog) u 41 5 i0 _ Try.underlying41 hi hz0 .i64 .i64 (n : Int) (n : Int) (by omega) (Int.le_refl _) (by rw [hz2]; omega) (by omega)
  simpa [hz1, Value.cells] using h
/-- A block of n bytes, the first k of them a. -/
def AsB (w : World) (g n k : Nat) : Prop := ∃ arr : Array Value, w.heap[g]? = some (.cells arr 5 (0, 0)) ∧ arr.size = n ∧ ∀ j, j < k → arr[j]? = some (.int .u8 97)
theorem AsB.put {w : World} {g n k : Nat} (h : AsB w g n k) (hk : k < n) : AsB (w.setCell ⟨g, k, none⟩ (.int .u8 97)) g n (k + 1) := by
  obtain ⟨arr, h1, h2, h3⟩ := h
  refine ⟨arr.setIfInBounds k (.int .u8 97), by simp [World.setCell, Array.getElem?_modify, h1], by simpa using h2, fun j hj => ?_⟩
  by_cases e : j = k
  · subst e
    rw [Array.getElem?_setIfInBounds]
    simp [h2, hk]
  · rw [Array.getElem?_setIfInBounds]
    have : ¬ k = j := fun h => e h.symm
    simp [this]
    exact h3 j (by omega)
theorem AsB.cell {w : World} {g n k : Nat} (h : AsB w g n k) (j : Nat) (hj : j < n) : (∃ v, w.cell? ⟨g, j, none⟩ = some v) ∧ w.frozen? ⟨g, j, none⟩ = false := by
  obtain ⟨arr, h1, h2, h3⟩ := h
  refine ⟨⟨arr[j]'(by omega), ?_⟩, Lib.frozen_of_heap h1 j⟩
  rw [Lib.cell_of_heap h1]
  simp [h2, hj]
theorem AsB.bytes {w : World} {g n : Nat} (h : AsB w g n n) (hn : n ≤ 1000000) : BytesAt w (some ⟨g, 0, none⟩) (List.replicate n 97) := by
  obtain ⟨arr, h1, h2, h3⟩ := h
  refine ⟨by unfold maxLen; simp; omega, .inr ⟨g, 0, rfl, (Array.getElem?_eq_some_iff.1 h1).1, fun i hi => ?_⟩⟩
  rw [Lib.cell_of_heap h1]
  simp at hi
  simp only [Nat.zero_add]
  rw [h3 i hi]
  simp
def mstInv (n : Nat) (w : World) (y : Value) (wr : World) : Prop := ∃ k : Nat, k ≤ n ∧ y = .int .i64 k ∧ Below w.heap.size w wr ∧ AsB wr w.heap.size n k
theorem most_cases {n : Nat} {rd : RD} (h : (65536 < n → rd = .no 0 3) ∧ (n ≤ 65536 → 1000 < n → rd = .no 0 4) ∧ (n ≤ 1000 → ∃ e, rd = .ok e)) (_hn : 1 ≤ n) : (65536 < n ∧ rd = .no 0 3) ∨ (n ≤ 65536 ∧ 1000 < n ∧ rd = .no 0 4) ∨ (n ≤ 1000 ∧ ∃ e, rd = .ok e) := by
  by_cases h1 : 65536 < n
  · exact .inl ⟨h1, h.1 h1⟩
  · by_cases h2 : 1000 < n
    · exact .inr (.inl ⟨by omega, h2, h.2.1 (by omega) h2⟩)
    · exact .inr (.inr ⟨by omega, h.2.2 (by omega)⟩)
set_option maxRecDepth 100000 in
set_option maxHeartbeats 8000000 in
theorem readMost_walk (hRead : ReadC) (hForm : FormC) (m : Nat) (b : Bool) (w : World) (hm : m < 256) :
    Calls Try.prog 5 #[.int .u8 m, .bool b] w fun e w' => e = .returned (.bool true) ∧ Below w.heap.size w w' := by
  have KA := Lib.hid (awake6_any hRead hForm)
  obtain ⟨n, hn⟩ : ∃ n, n = if b = true then 65533 + m % 7 else 997 + m % 7 := ⟨_, rfl⟩
  have KR := Lib.hid fun W => hRead ⟨(List.replicate n 97).toArray⟩ W (by show (List.replicate n 97).toArray.size ≤ _; simp; split at hn <;> omega)
  have hn1 : 1 ≤ n := by split at hn <;> omega
  have hn2 : n < 1000000 := by split at hn <;> omega
  have hM := rd_many (n - 1)
  rw [show n - 1 + 1 = n from by omega] at hM
  have hmk := make_b n hn2
  have HBT := Lib.hid fun W (h : AsB W w.heap.size n n) => conv_bytes (h.bytes (by omega)) n
  rw [List.length_replicate] at HBT
  generalize hrd : rdOf ⟨(List.replicate n 97).toArray⟩ = rd at *
  have HM := Lib.hid hM
  clear hrd hM
  cases b with
  | false =>
    simp only [Bool.false_eq_true, if_false] at hn
    have hN : (997 : Int) + (m : Int) % 7 = (n : Int) := by omega
    clear hn
    go_enter Try.func5, Try.ntmps5
    go_wp2_with fail
    clear hN hmk
    go_loopw [7] (fun y wr => mstInv n w y wr) (fun y _ => n - (intOf y).toNat)
    case atStart => exact ⟨0, Nat.zero_le _, rfl, (Below.refl _ w).alloc (Nat.le_refl _) _, _, blk_new w _, size_madeCells _ _, fun j hj => absurd hj (Nat.not_lt_zero _)⟩
    case round =>
      obtain ⟨k, hk, rfl, hb, hB⟩ := hrel
      by_cases hlt : k < n
      · have q1 : (k : Int) < (n : Int) := by omega
        have d1 : decide ((k : Int) < (n : Int)) = true := decide_eq_true q1
        have wk : IntKind.i64.wrap ((k : Int) + 1) = (k : Int) + 1 := by rw [IntKind.wrap_i64]; omega
        obtain ⟨⟨v, hc⟩, hf⟩ := hB.cell k hlt
        have HB := Lib.hid hB
        clear hB
        go_wp2
        exact ⟨⟨k + 1, by omega, by go_num, hb.setCell (p := ⟨w.heap.size, k, none⟩) (Nat.le_refl _) _, HB.out.put hlt⟩, by simp [intOf]; omega⟩
      · have hke : k = n := by omega
        subst hke
        have d1 : decide ((k : Int) < (k : Int)) = false := decide_eq_false (by omega)
        have hcv := HBT.out _ hB
        clear hB
        rcases most_cases HM.out hn1 with ⟨h1, rfl⟩ | ⟨h1, h2, rfl⟩ | ⟨h1, ex, rfl⟩
        · skip
          have e1 : decide ((65536 : Int) < (k : Int)) = true := decide_eq_true (by omega)
          have e2 : decide ((1000 : Int) < (k : Int)) = true := decide_eq_true (by omega)
          have e3 : decide (65536 < k) = true := decide_eq_true (by omega)
          have e4 : decide (1000 < k) = true := decide_eq_true (by omega)
          have KS := Lib.hid fun W => refSame_any (ok := fun _ => True) (ok' := fun _ => True) 1 (.node 0 Ws.nil []) (.node 0 Ws.nil []) (by simp [Rx.size, Rx.sizes]) _ _ W (bareAt _ W 0 Ws.nil (by decide) Ws.nil_ok) (bareAt _ W 0 Ws.nil (by decide) Ws.nil_ok)
          rw [show sameR (.node 0 Ws.nil []) (.node 0 Ws.nil []) = true from (sameR_iff _ _).2 rfl] at KS
          simp only [Ws.nil] at KS
          rw [show ((0 : Nat) : Int) = 0 from rfl] at KS
          clear HM
          go_wp2_with fail
          refine (KR.out _).mono ?_
          rintro e w1 ⟨hb1, he⟩
          simp only at he
          subst he
          unfold zeroRe
          rw [show ((0 : Nat) : Int) = 0 from rfl, show ((3 : Nat) : Int) = 3 from rfl]
          have hbw := hb.trans (hb1.mono hb.size)
          clear hb1 hb
          go_wp2_with fail
          refine (KS.out _).mono ?_
          rintro e w2 ⟨rfl, hb2⟩
          have hb2' := (hbw.alloc hbw.size _).trans (hb2.mono (by have := hbw.size; simp; omega))
          clear hb2
          go_wp2_with fail
          refine (KA.out _).mono ?_
          rintro e w3 ⟨rfl, hb3⟩
          go_wp2
          go_ret
          exact ⟨rfl, hb2'.trans (hb3.mono hb2'.size)⟩
        · skip
          have e1 : decide ((65536 : Int) < (k : Int)) = false := decide_eq_false (by omega)
          have e2 : decide ((1000 : Int) < (k : Int)) = true := decide_eq_true (by omega)
          have e3 : decide (65536 < k) = false := decide_eq_false (by omega)
          have e4 : decide (1000 < k) = true := decide_eq_true (by omega)
          have KS := Lib.hid fun W => refSame_any (ok := fun _ => True) (ok' := fun _ => True) 1 (.node 0 Ws.nil []) (.node 0 Ws.nil []) (by simp [Rx.size, Rx.sizes]) _ _ W (bareAt _ W 0 Ws.nil (by decide) Ws.nil_ok) (bareAt _ W 0 Ws.nil (by decide) Ws.nil_ok)
          rw [show sameR (.node 0 Ws.nil []) (.node 0 Ws.nil []) = true from (sameR_iff _ _).2 rfl] at KS
          simp only [Ws.nil] at KS
          rw [show ((0 : Nat) : Int) = 0 from rfl] at KS
          clear HM
          go_wp2_with fail
          refine (KR.out _).mono ?_
          rintro e w1 ⟨hb1, he⟩
          simp only at he
          subst he
          unfold zeroRe
          rw [show ((0 : Nat) : Int) = 0 from rfl, show ((4 : Nat) : Int) = 4 from rfl]
          have hbw := hb.trans (hb1.mono hb.size)
          clear hb1 hb
          go_wp2_with fail
          refine (KS.out _).mono ?_
          rintro e w2 ⟨rfl, hb2⟩
          have hb2' := (hbw.alloc hbw.size _).trans (hb2.mono (by have := hbw.size; simp; omega))
          clear hb2
          go_wp2_with fail
          refine (KA.out _).mono ?_
          rintro e w3 ⟨rfl, hb3⟩
          go_wp2
          go_ret
          exact ⟨rfl, hb2'.trans (hb3.mono hb2'.size)⟩
        · skip
          have e1 : decide ((65536 : Int) < (k : Int)) = false := decide_eq_false (by omega)
          have e2 : decide ((1000 : Int) < (k : Int)) = false := decide_eq_false (by omega)
          have e3 : decide (65536 < k) = false := decide_eq_false (by omega)
          have e4 : decide (1000 < k) = false := decide_eq_false (by omega)
          clear HM
          go_wp2_with fail
          refine (KR.out _).mono ?_
          rintro e w1 ⟨hb1, v, he, hv⟩
          subst he
          obtain ⟨y0, y1, y2, y3, y4, yl, yn, yc, rfl⟩ := cells_re hv
          have hbw := hb.trans (hb1.mono hb.size)
          clear hb1 hb hv
          go_wp2_with fail
          refine (KA.out _).mono ?_
          rintro e w3 ⟨rfl, hb3⟩
          have hb2' := hbw.alloc hbw.size (.cells #[.int .u8 y0, .int .u64 y1, .int .u64 y2, .int .u64 y3, .int .u64 y4, .slice yl yn yc] 28)
          go_wp2
          go_ret
          exact ⟨rfl, hb2'.trans (hb3.mono hb2'.size)⟩
  | true =>
    simp only [if_true] at hn
    have hN : (65533 : Int) + (m : Int) % 7 = (n : Int) := by omega
    clear hn
    go_enter Try.func5, Try.ntmps5
    go_wp2_with fail
    clear hN hmk
    go_loopw [7] (fun y wr => mstInv n w y wr) (fun y _ => n - (intOf y).toNat)
    case atStart => exact ⟨0, Nat.zero_le _, rfl, (Below.refl _ w).alloc (Nat.le_refl _) _, _, blk_new w _, size_madeCells _ _, fun j hj => absurd hj (Nat.not_lt_zero _)⟩
    case round =>
      obtain ⟨k, hk, rfl, hb, hB⟩ := hrel
      by_cases hlt : k < n
      · have q1 : (k : Int) < (n : Int) := by omega
        have d1 : decide ((k : Int) < (n : Int)) = true := decide_eq_true q1
        have wk : IntKind.i64.wrap ((k : Int) + 1) = (k : Int) + 1 := by rw [IntKind.wrap_i64]; omega
        obtain ⟨⟨v, hc⟩, hf⟩ := hB.cell k hlt
        have HB := Lib.hid hB
        clear hB
        go_wp2
        exact ⟨⟨k + 1, by omega, by go_num, hb.setCell (p := ⟨w.heap.size, k, none⟩) (Nat.le_refl _) _, HB.out.put hlt⟩, by simp [intOf]; omega⟩
      · have hke : k = n := by omega
        subst hke
        have d1 : decide ((k : Int) < (k : Int)) = false := decide_eq_false (by omega)
        have hcv := HBT.out _ hB
        clear hB
        rcases most_cases HM.out hn1 with ⟨h1, rfl⟩ | ⟨h1, h2, rfl⟩ | ⟨h1, ex, rfl⟩
        · skip
          have e1 : decide ((65536 : Int) < (k : Int)) = true := decide_eq_true (by omega)
          have e2 : decide ((1000 : Int) < (k : Int)) = true := decide_eq_true (by omega)
          have e3 : decide (65536 < k) = true := decide_eq_true (by omega)
          have e4 : decide (1000 < k) = true := decide_eq_true (by omega)
          have KS := Lib.hid fun W => refSame_any (ok := fun _ => True) (ok' := fun _ => True) 1 (.node 0 Ws.nil []) (.node 0 Ws.nil []) (by simp [Rx.size, Rx.sizes]) _ _ W (bareAt _ W 0 Ws.nil (by decide) Ws.nil_ok) (bareAt _ W 0 Ws.nil (by decide) Ws.nil_ok)
          rw [show sameR (.node 0 Ws.nil []) (.node 0 Ws.nil []) = true from (sameR_iff _ _).2 rfl] at KS
          simp only [Ws.nil] at KS
          rw [show ((0 : Nat) : Int) = 0 from rfl] at KS
          clear HM
          go_wp2_with fail
          refine (KR.out _).mono ?_
          rintro e w1 ⟨hb1, he⟩
          simp only at he
          subst he
          unfold zeroRe
          rw [show ((0 : Nat) : Int) = 0 from rfl, show ((3 : Nat) : Int) = 3 from rfl]
          have hbw := hb.trans (hb1.mono hb.size)
          clear hb1 hb
          go_wp2_with fail
          refine (KS.out _).mono ?_
          rintro e w2 ⟨rfl, hb2⟩
          have hb2' := (hbw.alloc hbw.size _).trans (hb2.mono (by have := hbw.size; simp; omega))
          clear hb2
          go_wp2_with fail
          refine (KA.out _).mono ?_
          rintro e w3 ⟨rfl, hb3⟩
          go_wp2
          go_ret
          exact ⟨rfl, hb2'.trans (hb3.mono hb2'.size)⟩
        · skip
          have e1 : decide ((65536 : Int) < (k : Int)) = false := decide_eq_false (by omega)
          have e2 : decide ((1000 : Int) < (k : Int)) = true := decide_eq_true (by omega)
          have e3 : decide (65536 < k) = false := decide_eq_false (by omega)
          have e4 : decide (1000 < k) = true := decide_eq_true (by omega)
          have KS := Lib.hid fun W => refSame_any (ok := fun _ => True) (ok' := fun _ => True) 1 (.node 0 Ws.nil []) (.node 0 Ws.nil []) (by simp [Rx.size, Rx.sizes]) _ _ W (bareAt _ W 0 Ws.nil (by decide) Ws.nil_ok) (bareAt _ W 0 Ws.nil (by decide) Ws.nil_ok)
          rw [show sameR (.node 0 Ws.nil []) (.node 0 Ws.nil []) = true from (sameR_iff _ _).2 rfl] at KS
          simp only [Ws.nil] at KS
          rw [show ((0 : Nat) : Int) = 0 from rfl] at KS
          clear HM
          go_wp2_with fail
          refine (KR.out _).mono ?_
          rintro e w1 ⟨hb1, he⟩
          simp only at he
          subst he
          unfold zeroRe
          rw [show ((0 : Nat) : Int) = 0 from rfl, show ((4 : Nat) : Int) = 4 from rfl]
          have hbw := hb.trans (hb1.mono hb.size)
          clear hb1 hb
          go_wp2_with fail
          refine (KS.out _).mono ?_
          rintro e w2 ⟨rfl, hb2⟩
          have hb2' := (hbw.alloc hbw.size _).trans (hb2.mono (by have := hbw.size; simp; omega))
          clear hb2
          go_wp2_with fail
          refine (KA.out _).mono ?_
          rintro e w3 ⟨rfl, hb3⟩
          go_wp2
          go_ret
          exact ⟨rfl, hb2'.trans (hb3.mono hb2'.size)⟩
        · skip
          have e1 : decide ((65536 : Int) < (k : Int)) = false := decide_eq_false (by omega)
          have e2 : decide ((1000 : Int) < (k : Int)) = false := decide_eq_false (by omega)
          have e3 : decide (65536 < k) = false := decide_eq_false (by omega)
          have e4 : decide (1000 < k) = false := decide_eq_false (by omega)
          clear HM
          go_wp2_with fail
          refine (KR.out _).mono ?_
          rintro e w1 ⟨hb1, v, he, hv⟩
          subst he
          obtain ⟨y0, y1, y2, y3, y4, yl, yn, yc, rfl⟩ := cells_re hv
          have hbw := hb.trans (hb1.mono hb.size)
          clear hb1 hb hv
          go_wp2_with fail
          refine (KA.out _).mono ?_
          rintro e w3 ⟨rfl, hb3⟩
          have hb2' := hbw.alloc hbw.size (.cells #[.int .u8 y0, .int .u64 y1, .int .u64 y2, .int .u64 y3, .int .u64 y4, .slice yl yn yc] 28)
          go_wp2
          go_ret
          exact ⟨rfl, hb2'.trans (hb3.mono hb2'.size)⟩
end Go.Proofs.Ytmkjcbgcikgglaa
/- quilllaw06.ReadRound, walked. -/
namespace Go.Proofs.Ytmkjcbgcikgglaa
open Go.RowKit
theorem rd_err {s : ByteArray} {k err : Nat} (h : rdOf s = .no k err) : err ≠ 0 := by
  have := topR_ok s.size (resOf s)
  have e : topR s.size (resOf s) = rdOf s := rfl
  rw [e, h] at this
  simp only [RD.isOk, RD.err] at this
  intro h0
  rw [h0] at this
  simp at this
set_option maxHeartbeats 8000000 in
theorem readRound_walk (hRead : ReadC) (hForm : FormC) (s t : ByteArray) (w : World) (hs : s.size ≤ maxLen) (ht : t.size ≤ maxLen) :
    Calls Try.prog 6 #[.string s, .string t] w fun e w' => e = .returned (.bool true) ∧ Below w.heap.size w w' := by
  have KA := Lib.hid (awake6_any hRead hForm)
  unfold Awake6C at KA
  unfold maxLen at hs ht
  by_cases hbig : 200 < s.size
  · have d0 : decide ((200 : Int) < (s.size : Int)) = true := by simp; omega
    clear hRead hForm
    go_enter Try.func6, Try.ntmps6
    go_wp2_with fail
    refine (KA.out _).mono ?_
    rintro e w1 ⟨rfl, hb1⟩
    go_wp2
    go_ret
    exact ⟨rfl, hb1⟩
  · have d0 : decide ((200 : Int) < (s.size : Int)) = false := by simp; omega
    by_cases hbig2 : 200 < t.size
    · have d1 : decide ((200 : Int) < (t.size : Int)) = true := by simp; omega
      clear hRead hForm
      go_enter Try.func6, Try.ntmps6
      go_wp2_with fail
      refine (KA.out _).mono ?_
      rintro e w1 ⟨rfl, hb1⟩
      go_wp2
      go_ret
      exact ⟨rfl, hb1⟩
    · have d1 : decide ((200 : Int) < (t.size : Int)) = false := by simp; omega
      have K1 := Lib.hid (fun W => hRead s W (by omega))
      have K2 := Lib.hid (fun W => hRead t W (by omega))
      cases hr1 : rdOf s with
      | no k err =>
        have hne := rd_err hr1
        have t1 : ((err : Int) != 0) = true := by simp [hne]
        rw [hr1] at K1
        generalize rdOf t = rd2 at *
        clear hRead hForm hr1 hne
        go_enter Try.func6, Try.ntmps6
        go_wp2_with fail
        refine (K1.out _).mono ?_
        rintro e w1 hp
        obtain ⟨y0, y1, y2, y3, y4, yl, yn, yc, rfl, -, hb1⟩ := hp.all
        simp only [RD.k, RD.err]
        have hbA := Lib.hid (hb1.alloc hb1.size (.cells #[.int .u8 y0, .int .u64 y1, .int .u64 y2, .int .u64 y3, .int .u64 y4, .slice yl yn yc] 28))
        clear hp hb1
        go_wp2_with fail
        refine (K2.out _).mono ?_
        rintro e w2 hp
        obtain ⟨z0, z1, z2, z3, z4, zl, zn, zc, rfl, -, hb2⟩ := hp.all
        have hbB := hbA.out.trans (hb2.mono hbA.out.size)
        have hbC := Lib.hid (hbB.alloc hbB.size (.cells #[.int .u8 z0, .int .u64 z1, .int .u64 z2, .int .u64 z3, .int .u64 z4, .slice zl zn zc] 28))
        clear hp hb2 hbB
        generalize rd2.k = k2 at *
        generalize rd2.err = e2 at *
        go_wp2_with fail
        refine (KA.out _).mono ?_
        rintro e w3 ⟨rfl, hb3⟩
        have hB := Lib.hid (hbC.out.trans (hb3.mono hbC.out.size))
        clear hb3
        go_wp2
        go_ret
        exact ⟨rfl, hB.out⟩
      | ok ea =>
        rw [hr1] at K1
        cases hr2 : rdOf t with
        | no k err =>
          have hne := rd_err hr2
          have t1 : ((err : Int) != 0) = true := by simp [hne]
          rw [hr2] at K2
          clear hRead hForm hr1 hr2 hne
          go_enter Try.func6, Try.ntmps6
          go_wp2_with fail
          refine (K1.out _).mono ?_
          rintro e w1 hp
          obtain ⟨y0, y1, y2, y3, y4, yl, yn, yc, rfl, -, hb1⟩ := hp.all
          simp only [RD.k, RD.err]
          rw [show ((0 : Nat) : Int) = 0 from rfl]
          have hbA := Lib.hid (hb1.alloc hb1.size (.cells #[.int .u8 y0, .int .u64 y1, .int .u64 y2, .int .u64 y3, .int .u64 y4, .slice yl yn yc] 28))
          clear hp hb1
          go_wp2_with fail
          refine (K2.out _).mono ?_
          rintro e w2 hp
          obtain ⟨z0, z1, z2, z3, z4, zl, zn, zc, rfl, -, hb2⟩ := hp.all
          simp only [RD.k, RD.err]
          have hbB := hbA.out.trans (hb2.mono hbA.out.size)
          have hbC := Lib.hid (hbB.alloc hbB.size (.cells #[.int .u8 z0, .int .u64 z1, .int .u64 z2, .int .u64 z3, .int .u64 z4, .slice zl zn zc] 28))
          clear hp hb2 hbB
          go_wp2_with fail
          refine (KA.out _).mono ?_
          rintro e w3 ⟨rfl, hb3⟩
          have hB := Lib.hid (hbC.out.trans (hb3.mono hbC.out.size))
          clear hb3
          go_wp2
          go_ret
          exact ⟨rfl, hB.out⟩
        | ok eb =>
          rw [hr2] at K2
          have K3 := Lib.hid (fun W => hRead ((⟨#[40]⟩ : ByteArray) ++ s ++ ⟨#[41]⟩) W (by rw [ByteArray.size_append, ByteArray.size_append]; show 1 + s.size + 1 ≤ _; omega))
          have K4 := Lib.hid (fun W => hRead ((⟨#[40]⟩ : ByteArray) ++ s ++ ⟨#[41, 124, 40]⟩ ++ t ++ ⟨#[41]⟩) W (by rw [ByteArray.size_append, ByteArray.size_append, ByteArray.size_append, ByteArray.size_append]; show 1 + s.size + 3 + t.size + 1 ≤ _; omega))
          rw [rd_alone hr1 (by omega)] at K3
          rw [rd_both hr1 hr2 (by omega) (by omega)] at K4
          clear hRead hForm hr1 hr2
          go_enter Try.func6, Try.ntmps6
          go_wp2_with fail
          refine (K1.out _).mono ?_
          rintro e w1 hp
          obtain ⟨y0, y1, y2, y3, y4, yl, yn, yc, rfl, hvy, hb1⟩ := hp.all
          simp only [RD.k, RD.err]
          rw [show ((0 : Nat) : Int) = 0 from rfl]
          have bA := Lib.hid (hb1.alloc hb1.size (.cells #[.int .u8 y0, .int .u64 y1, .int .u64 y2, .int .u64 y3, .int .u64 y4, .slice yl yn yc] 28))
          have gA := Lib.hid (blk_new w1 (.cells #[.int .u8 y0, .int .u64 y1, .int .u64 y2, .int .u64 y3, .int .u64 y4, .slice yl yn yc] 28))
          have vA := Lib.hid (hvy.alloc (.cells #[.int .u8 y0, .int .u64 y1, .int .u64 y2, .int .u64 y3, .int .u64 y4, .slice yl yn yc] 28))
          clear hp hb1 hvy
          go_wp2_with fail
          refine (K2.out _).mono ?_
          rintro e w2 hp
          obtain ⟨z0, z1, z2, z3, z4, zl, zn, zc, rfl, hvz, hb2⟩ := hp.all
          simp only [RD.k, RD.err]
          rw [show ((0 : Nat) : Int) = 0 from rfl]
          have bB := bA.out.trans (hb2.mono bA.out.size)
          have gB := Lib.hid ((hb2.block w1.heap.size (by simp)).trans gA.out)
          have vB := Lib.hid (vA.out.below hb2)
          have bC := Lib.hid (bB.alloc bB.size (.cells #[.int .u8 z0, .int .u64 z1, .int .u64 z2, .int .u64 z3, .int .u64 z4, .slice zl zn zc] 28))
          have gC := Lib.hid (blk_new w2 (.cells #[.int .u8 z0, .int .u64 z1, .int .u64 z2, .int .u64 z3, .int .u64 z4, .slice zl zn zc] 28))
          have vC := Lib.hid (hvz.alloc (.cells #[.int .u8 z0, .int .u64 z1, .int .u64 z2, .int .u64 z3, .int .u64 z4, .slice zl zn zc] 28))
          clear hp hb2 hvz bB bA gA vA
          go_wp2_with fail
          refine (K3.out _).mono ?_
          rintro e w3 hp
          obtain ⟨x0, x1, x2, x3, x4, xl, xn, xc, rfl, hvx, hb3⟩ := hp.all
          simp only [RD.k, RD.err]
          rw [show ((0 : Nat) : Int) = 0 from rfl]
          have bD := bC.out.trans (hb3.mono bC.out.size)
          have hl2 : w2.heap.size < (w2.alloc (.cells #[.int .u8 z0, .int .u64 z1, .int .u64 z2, .int .u64 z3, .int .u64 z4, .slice zl zn zc] 28)).heap.size := by simp
          have hl1 : w1.heap.size < (w2.alloc (.cells #[.int .u8 z0, .int .u64 z1, .int .u64 z2, .int .u64 z3, .int .u64 z4, .slice zl zn zc] 28)).heap.size := Nat.lt_trans (Array.getElem?_eq_some_iff.1 gB.out).1 hl2
          have gAD := (hb3.block _ hl1).trans ((Below.heap_alloc _ _ _ (Array.getElem?_eq_some_iff.1 gB.out).1).trans gB.out)
          have gBD := (hb3.block _ hl2).trans gC.out
          have vAD := (vB.out.alloc (.cells #[.int .u8 z0, .int .u64 z1, .int .u64 z2, .int .u64 z3, .int .u64 z4, .slice zl zn zc] 28)).below hb3
          have vBD := vC.out.below hb3
          clear hp hb3 hl1 hl2 bC gB gC vB vC
          have bE := Lib.hid (bD.alloc bD.size (.cells #[.int .u8 x0, .int .u64 x1, .int .u64 x2, .int .u64 x3, .int .u64 x4, .slice xl xn xc] 28))
          have gA3 := Lib.hid ((Below.heap_alloc w3 (.cells #[.int .u8 x0, .int .u64 x1, .int .u64 x2, .int .u64 x3, .int .u64 x4, .slice xl xn xc] 28) _ (Array.getElem?_eq_some_iff.1 gAD).1).trans gAD)
          have gB3 := Lib.hid ((Below.heap_alloc w3 (.cells #[.int .u8 x0, .int .u64 x1, .int .u64 x2, .int .u64 x3, .int .u64 x4, .slice xl xn xc] 28) _ (Array.getElem?_eq_some_iff.1 gBD).1).trans gBD)
          have gX3 := Lib.hid (blk_new w3 (.cells #[.int .u8 x0, .int .u64 x1, .int .u64 x2, .int .u64 x3, .int .u64 x4, .slice xl xn xc] 28))
          have vA3 := Lib.hid (vAD.alloc (.cells #[.int .u8 x0, .int .u64 x1, .int .u64 x2, .int .u64 x3, .int .u64 x4, .slice xl xn xc] 28))
          have vB3 := Lib.hid (vBD.alloc (.cells #[.int .u8 x0, .int .u64 x1, .int .u64 x2, .int .u64 x3, .int .u64 x4, .slice xl xn xc] 28))
          have vX3 := Lib.hid (hvx.alloc (.cells #[.int .u8 x0, .int .u64 x1, .int .u64 x2, .int .u64 x3, .int .u64 x4, .slice xl xn xc] 28))
          clear bD gAD gBD vAD vBD hvx
          go_wp2_with fail
          refine (K4.out _).mono ?_
          rintro e w4 hp
          obtain ⟨v0, v1, v2, v3, v4, vl, vn, vc, rfl, hvv, hb4⟩ := hp.all
          simp only [RD.k, RD.err]
          rw [show ((0 : Nat) : Int) = 0 from rfl]
          have bF := bE.out.trans (hb4.mono bE.out.size)
          obtain ⟨W, hW⟩ : ∃ W, W = w4.alloc (.cells #[.int .u8 v0, .int .u64 v1, .int .u64 v2, .int .u64 v3, .int .u64 v4, .slice vl vn vc] 28) := ⟨_, rfl⟩
          have up : ∀ {g : Nat} {o : Obj}, (w3.alloc (.cells #[.int .u8 x0, .int .u64 x1, .int .u64 x2, .int .u64 x3, .int .u64 x4, .slice xl xn xc] 28)).heap[g]? = some o → W.heap[g]? = some o := fun {g o} h => by
            rw [hW]
            have h4 := (hb4.block g (Array.getElem?_eq_some_iff.1 h).1).trans h
            exact (Below.heap_alloc _ _ _ (Array.getElem?_eq_some_iff.1 h4).1).trans h4
          have gA := Lib.hid (up gA3.out)
          have gB := Lib.hid (up gB3.out)
          have gX := Lib.hid (up gX3.out)
          have gV := Lib.hid (show W.heap[w4.heap.size]? = some (.cells #[.int .u8 v0, .int .u64 v1, .int .u64 v2, .int .u64 v3, .int .u64 v4, .slice vl vn vc] 28) from by rw [hW]; exact blk_new w4 _)
          have lift : ∀ {ok : Nat → Prop} {v : Value} {r : Rx}, ReAt ok (w3.alloc (.cells #[.int .u8 x0, .int .u64 x1, .int .u64 x2, .int .u64 x3, .int .u64 x4, .slice xl xn xc] 28)) v r → ReAt (fun _ => True) W v r := fun {ok v r} h => by
            rw [hW]
            exact ((h.below hb4).alloc _).imp fun _ _ _ => trivial
          have vA := Lib.hid (lift vA3.out)
          have vB := Lib.hid (lift vB3.out)
          have vX := Lib.hid (lift vX3.out)
          have vV := Lib.hid (show ReAt (fun _ => True) W (.agg #[.int .u8 v0, .int .u64 v1, .int .u64 v2, .int .u64 v3, .int .u64 v4, .slice vl vn vc]) (RD.ok (Ex.alt ea eb)).rx from by rw [hW]; exact (hvv.alloc _).imp fun _ _ _ => trivial)
          have bW := Lib.hid (show Below w.heap.size w W from by rw [hW]; exact bF.alloc bF.size _)
          have HW := Lib.hid hW
          clear hp hb4 up lift hvv bF bE gA3 gB3 gX3 vA3 vB3 vX3 hW
          have KEEP := Lib.hid fun x (hx : Below W.heap.size W x) => show ((x.cell? ⟨w1.heap.size, 0, none⟩ = some (.int .u8 y0) ∧ x.cell? ⟨w1.heap.size, 1, none⟩ = some (.int .u64 y1) ∧ x.cell? ⟨w1.heap.size, 2, none⟩ = some (.int .u64 y2) ∧ x.cell? ⟨w1.heap.size, 3, none⟩ = some (.int .u64 y3) ∧ x.cell? ⟨w1.heap.size, 4, none⟩ = some (.int .u64 y4) ∧ x.cell? ⟨w1.heap.size, 5, none⟩ = some (.slice yl yn yc)) ∧ (x.cell? ⟨w2.heap.size, 0, none⟩ = some (.int .u8 z0) ∧ x.cell? ⟨w2.heap.size, 1, none⟩ = some (.int .u64 z1) ∧ x.cell? ⟨w2.heap.size, 2, none⟩ = some (.int .u64 z2) ∧ x.cell? ⟨w2.heap.size, 3, none⟩ = some (.int .u64 z3) ∧ x.cell? ⟨w2.heap.size, 4, none⟩ = some (.int .u64 z4) ∧ x.cell? ⟨w2.heap.size, 5, none⟩ = some (.slice zl zn zc)) ∧ (x.cell? ⟨w3.heap.size, 0, none⟩ = some (.int .u8 x0) ∧ x.cell? ⟨w3.heap.size, 1, none⟩ = some (.int .u64 x1) ∧ x.cell? ⟨w3.heap.size, 2, none⟩ = some (.int .u64 x2) ∧ x.cell? ⟨w3.heap.size, 3, none⟩ = some (.int .u64 x3) ∧ x.cell? ⟨w3.heap.size, 4, none⟩ = some (.int .u64 x4) ∧ x.cell? ⟨w3.heap.size, 5, none⟩ = some (.slice xl xn xc)) ∧ (x.cell? ⟨w4.heap.size, 0, none⟩ = some (.int .u8 v0) ∧ x.cell? ⟨w4.heap.size, 1, none⟩ = some (.int .u64 v1) ∧ x.cell? ⟨w4.heap.size, 2, none⟩ = some (.int .u64 v2) ∧ x.cell? ⟨w4.heap.size, 3, none⟩ = some (.int .u64 v3) ∧ x.cell? ⟨w4.heap.size, 4, none⟩ = some (.int .u64 v4) ∧ x.cell? ⟨w4.heap.size, 5, none⟩ = some (.slice vl vn vc))) ∧ Below W.heap.size W x from by
            have c := fun {g : Nat} {y0 y1 y2 y3 y4 y5 : Value} (h : W.heap[g]? = some (.cells #[y0, y1, y2, y3, y4, y5] 28)) => cellsR ((hx.block g (Array.getElem?_eq_some_iff.1 h).1).trans h)
            obtain ⟨a0, a1, a2, a3, a4, a5, -⟩ := c gA.out
            obtain ⟨b0, b1, b2, b3, b4, b5, -⟩ := c gB.out
            obtain ⟨c0, c1, c2, c3, c4, c5, -⟩ := c gX.out
            obtain ⟨d0, d1, d2, d3, d4, d5, -⟩ := c gV.out
            exact ⟨⟨⟨a0, a1, a2, a3, a4, a5⟩, ⟨b0, b1, b2, b3, b4, b5⟩, ⟨c0, c1, c2, c3, c4, c5⟩, ⟨d0, d1, d2, d3, d4, d5⟩⟩, hx⟩
          have KS1 := Lib.hid (fun X (h : Below W.heap.size W X) => refSame_any _ ea.rx ea.rx (Nat.le_refl _) _ _ X (vX.out.below h) (vA.out.below h))
          rw [(sameR_iff ea.rx ea.rx).2 rfl] at KS1
          have KT := Lib.hid (fun X (h : Below W.heap.size W X) => two_any 5 ea.rx eb.rx _ _ X (by decide) (vA.out.below h) (vB.out.below h))
          rw [show ((5 : Nat) : Int) = 5 from rfl] at KT
          have KS2 := Lib.hid (fun X u ok (h : Below W.heap.size W X) (hu : ReAt ok X u (.node 5 Ws.nil [ea.rx, eb.rx])) => refSame_any (ok' := ok) _ (Ex.alt ea eb).rx (.node 5 Ws.nil [ea.rx, eb.rx]) (Nat.le_refl _) _ u X (vV.out.below h) hu)
          rw [(sameR_iff (Ex.alt ea eb).rx (.node 5 Ws.nil [ea.rx, eb.rx])).2 rfl] at KS2
          have hW0 := (Below.refl W.heap.size W).drew
          go_wp2_with fail
          rw [← HW.out]
          go_region_held3 (fun x => ((x.cell? ⟨w1.heap.size, 0, none⟩ = some (.int .u8 y0) ∧ x.cell? ⟨w1.heap.size, 1, none⟩ = some (.int .u64 y1) ∧ x.cell? ⟨w1.heap.size, 2, none⟩ = some (.int .u64 y2) ∧ x.cell? ⟨w1.heap.size, 3, none⟩ = some (.int .u64 y3) ∧ x.cell? ⟨w1.heap.size, 4, none⟩ = some (.int .u64 y4) ∧ x.cell? ⟨w1.heap.size, 5, none⟩ = some (.slice yl yn yc)) ∧ (x.cell? ⟨w2.heap.size, 0, none⟩ = some (.int .u8 z0) ∧ x.cell? ⟨w2.heap.size, 1, none⟩ = some (.int .u64 z1) ∧ x.cell? ⟨w2.heap.size, 2, none⟩ = some (.int .u64 z2) ∧ x.cell? ⟨w2.heap.size, 3, none⟩ = some (.int .u64 z3) ∧ x.cell? ⟨w2.heap.size, 4, none⟩ = some (.int .u64 z4) ∧ x.cell? ⟨w2.heap.size, 5, none⟩ = some (.slice zl zn zc)) ∧ (x.cell? ⟨w3.heap.size, 0, none⟩ = some (.int .u8 x0) ∧ x.cell? ⟨w3.heap.size, 1, none⟩ = some (.int .u64 x1) ∧ x.cell? ⟨w3.heap.size, 2, none⟩ = some (.int .u64 x2) ∧ x.cell? ⟨w3.heap.size, 3, none⟩ = some (.int .u64 x3) ∧ x.cell? ⟨w3.heap.size, 4, none⟩ = some (.int .u64 x4) ∧ x.cell? ⟨w3.heap.size, 5, none⟩ = some (.slice xl xn xc)) ∧ (x.cell? ⟨w4.heap.size, 0, none⟩ = some (.int .u8 v0) ∧ x.cell? ⟨w4.heap.size, 1, none⟩ = some (.int .u64 v1) ∧ x.cell? ⟨w4.heap.size, 2, none⟩ = some (.int .u64 v2) ∧ x.cell? ⟨w4.heap.size, 3, none⟩ = some (.int .u64 v3) ∧ x.cell? ⟨w4.heap.size, 4, none⟩ = some (.int .u64 v4) ∧ x.cell? ⟨w4.heap.size, 5, none⟩ = some (.slice vl vn vc))) ∧ Below W.heap.size W x)
            (first | (with_reducible exact KEEP.out _ hW0) | (with_reducible exact KEEP.out _ hq1) | (with_reducible exact KEEP.out _ hq2) | (with_reducible exact KEEP.out _ hq3) | (with_reducible exact KEEP.out _ hq4))
            (first
            | (go_at_call 10; (with_reducible refine (KS1.out _ hW0).mono ?_); (rintro e wa ⟨rfl, hba⟩); (have hq1 := hW0.trans (hba.mono hW0.size)))
            | (go_at_call 13; (with_reducible refine (KT.out _ hq1).mono ?_); (rintro e wb ⟨u, rfl, hu, hbb⟩); (have hq2 := hq1.trans (hbb.mono hq1.size)); (obtain ⟨o0, o1, o2, o3, o4, ol, oq, oc, rfl⟩ := cells_re hu))
            | (go_at_call 10; (with_reducible refine (KS2.out _ _ _ hq2 hu).mono ?_); (rintro e wd ⟨rfl, hbd⟩); (have hq3 := hq2.trans (hbd.mono hq2.size)))
            | (go_at_call 7; (with_reducible refine (KA.out _).mono ?_); (rintro e we ⟨rfl, hbe⟩); (have hq4 := hq3.trans (hbe.mono hq3.size)))
            | fail)
          all_goals
            have hB := Lib.hid (bW.out.trans (hq4.mono bW.out.size))
            go_wp2
            go_ret
            exact ⟨rfl, hB.out⟩
end Go.Proofs.Ytmkjcbgcikgglaa
