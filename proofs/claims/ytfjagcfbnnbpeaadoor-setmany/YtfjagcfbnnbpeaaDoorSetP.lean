/- math/bits.OnesCount64, set.Count. -/
import Derived.Test.YtfjagcfbnnbpeaaDoorSetPM
import Derived.Test.YtfjagcfbnnbpeaaDoorSetE
namespace Go.Proofs.YtfjagcfbnnbpeaaDoor
open Go.RowKit
theorem m1_8 : M1 8 = 6148914691236517205 := rfl
theorem m2_8 : M2 8 = 3689348814741910323 := rfl
theorem m3_8 : M3 8 = 1085102592571150095 := rfl
theorem and_lit (x m : Nat) (hx : x < 18446744073709551616) (hm : m < 18446744073709551616) : bits BinOp.and IntKind.u64 (x : Int) (m : Int) = ((x &&& m : Nat) : Int) := u64_and_nat x m hx hm
theorem wrap_nat (x : Nat) (hx : x < 18446744073709551616) : IntKind.u64.wrap (x : Int) = x := by rw [IntKind.wrap_u64]; omega
theorem st1 (x : Nat) (hx : x < 18446744073709551616) : IntKind.u64.wrap (bits BinOp.and IntKind.u64 ((x : Int) / 2) 6148914691236517205 + bits BinOp.and IntKind.u64 (x : Int) 6148914691236517205) = ((s1 x 8 : Nat) : Int) := by
  have e : (x : Int) / 2 = ((x / 2 : Nat) : Int) := rfl
  have m : (6148914691236517205 : Int) = ((M1 8 : Nat) : Int) := rfl
  have h := s1_lt x
  rw [e, m, and_lit _ _ (by omega) (by decide), and_lit _ _ hx (by decide)]
  exact wrap_nat (s1 x 8) h
theorem st2 (x : Nat) (hx : x < 18446744073709551616) : IntKind.u64.wrap (bits BinOp.and IntKind.u64 ((x : Int) / 4) 3689348814741910323 + bits BinOp.and IntKind.u64 (x : Int) 3689348814741910323) = ((s2 x 8 : Nat) : Int) := by
  have e : (x : Int) / 4 = ((x / 4 : Nat) : Int) := rfl
  have m : (3689348814741910323 : Int) = ((M2 8 : Nat) : Int) := rfl
  have h := s2_lt x
  rw [e, m, and_lit _ _ (by omega) (by decide), and_lit _ _ hx (by decide)]
  exact wrap_nat (s2 x 8) h
theorem s2_small (x : Nat) : s2 x 8 ≤ 7378697629483820646 := by
  have h1 : x / 4 &&& M2 8 ≤ M2 8 := Nat.and_le_right
  have h2 : x &&& M2 8 ≤ M2 8 := Nat.and_le_right
  have h3 : M2 8 = 3689348814741910323 := rfl
  unfold s2; omega
theorem st3 (z : Nat) (hz : z ≤ 7378697629483820646) : bits BinOp.and IntKind.u64 (IntKind.u64.wrap ((z : Int) / 16 + (z : Int))) 1085102592571150095 = ((s3 z 8 : Nat) : Int) := by
  have e : (z : Int) / 16 + (z : Int) = ((z / 16 + z : Nat) : Int) := rfl
  have m : (1085102592571150095 : Int) = ((M3 8 : Nat) : Int) := rfl
  rw [e, wrap_nat _ (by omega), m, and_lit _ _ (by omega) (by decide)]
  rfl
theorem st4 (u k : Nat) (h : u + u / k < 18446744073709551616) : IntKind.u64.wrap ((u : Int) + (u : Int) / (k : Int)) = ((u + u / k : Nat) : Int) := by
  have e : (u : Int) + (u : Int) / (k : Int) = ((u + u / k : Nat) : Int) := rfl
  rw [e, wrap_nat _ h]
theorem and127 (z : Nat) (hz : z < 9223372036854775808) : bits BinOp.and IntKind.i64 (z : Int) 127 = ((z % 128 : Nat) : Int) := by
  have h1 : (BitVec.ofInt 64 (z : Int)).toNat = z := by
    rw [BitVec.ofInt_natCast, BitVec.toNat_ofNat]; exact Nat.mod_eq_of_lt (by omega)
  have h2 : (BitVec.ofInt 64 (127 : Int)).toNat = 127 := by decide
  show IntKind.i64.wrap ((BitVec.ofInt 64 (z : Int) &&& BitVec.ofInt 64 (127 : Int)).toNat : Int) = _
  rw [BitVec.toNat_and, h1, h2, show (127 : Nat) = 2 ^ 7 - 1 from rfl, Nat.and_two_pow_sub_one_eq_mod]
  exact IntWalk.i64_in _ (by omega)
set_option maxHeartbeats 1000000 in
theorem ones_any (x : Nat) (w : World) (hx : x < 18446744073709551616) :
    Calls Tryd.prog 33 #[.int .u64 x] w fun e w' => e = .returned (.int .i64 (bitsN x)) ∧ w = w' := by
  obtain ⟨hu, hv, hw, hz, hr⟩ := pop_sum x _ rfl
  have HR := Lib.hid hr
  clear hr
  go_enter Tryd.func33, Tryd.ntmps33
  go_wp2
  go_ret
  refine ⟨?_, rfl⟩
  rw [st1 x hx, st2 _ (s1_lt x), st3 _ (s2_small _)]
  generalize s3 (s2 (s1 x 8) 8) 8 = u at *
  have e1 := st4 u 256 (by omega)
  simp only [Int.cast_ofNat_Int] at e1
  rw [e1]
  generalize u + u / 256 = v at *
  have e2 := st4 v 65536 (by omega)
  simp only [Int.cast_ofNat_Int] at e2
  rw [e2]
  generalize v + v / 65536 = y at *
  have e3 := st4 y 4294967296 (by omega)
  simp only [Int.cast_ofNat_Int] at e3
  rw [e3]
  generalize y + y / 4294967296 = z at *
  have e4 : wrap64 (z : Int) = z := by simp only [wrap64]; omega
  show Ending.returned (.int .i64 (bits BinOp.and IntKind.i64 (wrap64 (z : Int)) 127)) = _
  rw [e4, and127 z hz, HR.out]
def cntL (l : List Ws) : Nat := (l.map fun s => (bytesN s).length).sum
theorem cntL_take {l : List Ws} {k : Nat} {s : Ws} (h : l[k]? = some s) : cntL (l.take (k + 1)) = cntL (l.take k) + (bytesN s).length := by
  unfold cntL; rw [List.take_add_one, h]; simp
theorem cntL_le (l : List Ws) : cntL l ≤ 256 * l.length := by
  induction l with
  | nil => simp [cntL]
  | cons x t ih =>
    have := bytesN_length_le x
    simp [cntL] at ih ⊢; omega
def cntInv (l : List Ws) (w : World) (v i : Value) (wr : World) : Prop := ∃ k n : Nat, k ≤ l.length ∧ n = cntL (l.take k) ∧ v = .int .i64 n ∧ i = .int .i64 k ∧ Below w.heap.size w wr
set_option maxHeartbeats 2000000 in
theorem count_any (a : Option Addr) (l : List Ws) (cap : Nat) (w : World) (h : SetsAt w a l) (hl : l.length ≤ 1000) :
    Calls Tryd.prog 23 #[.slice a l.length cap] w fun e w' => e = .returned (.int .i64 (cntL l)) ∧ Below w.heap.size w w' := by
  have hS := Lib.hid h
  clear h
  have i0 := idx0; have i1 := idx1; have i2 := idx2; have i3 := idx3
  go_enter Tryd.func23, Tryd.ntmps23
  go_wp2
  go_loopw [3, 10] (fun v i wr => cntInv l w v i wr) (fun _ i _ => l.length - (intOf i).toNat)
  case atStart => exact ⟨0, 0, Nat.zero_le _, rfl, rfl, rfl, Below.refl _ _⟩
  case round =>
    obtain ⟨k, n, hk, hn, rfl, rfl, hb⟩ := hrel
    have hsz := hb.size
    have hnl : n ≤ 256000 := by
      have := cntL_le (l.take k)
      rw [List.length_take] at this; omega
    have HN := Lib.hid hn
    clear hn
    by_cases hlt : k < l.length
    · obtain ⟨b, off, t, hab, hblt, hlk, htk, z0, z1, z2, z3⟩ := hS.out.elem hb hlt
      have hc := count_words t
      have hnx := cntL_take hlk
      obtain ⟨ta, tb, tc, td⟩ := t
      obtain ⟨k0, k1, k2, k3⟩ := htk
      simp only at k0 k1 k2 k3 z0 z1 z2 z3 hc
      subst hab
      have l0 := bitsN_le ta
      have l1 := bitsN_le tb
      have l2 := bitsN_le tc
      have l3 := bitsN_le td
      have o0 := fun W => ones_any ta W k0
      have o1 := fun W => ones_any tb W k1
      have o2 := fun W => ones_any tc W k2
      have o3 := fun W => ones_any td W k3
      rw [hc, ← HN.out] at hnx
      clear hc HN hlk
      generalize bitsN ta = p0 at *
      generalize bitsN tb = p1 at *
      generalize bitsN tc = p2 at *
      generalize bitsN td = p3 at *
      have O0 := Lib.hid o0
      have O1 := Lib.hid o1
      have O2 := Lib.hid o2
      have O3 := Lib.hid o3
      have HX := Lib.hid hnx
      clear o0 o1 o2 o3 hnx
      go_wp2
      refine wp_loop_rounds 5 ?_
      rw [rounds_succ]
      go_wp2_with fail
      refine (O0.out _).mono ?_
      rintro e w1 ⟨rfl, rfl⟩
      go_wp2
      rw [rounds_succ]
      go_wp2_with fail
      refine (O1.out _).mono ?_
      rintro e w1 ⟨rfl, rfl⟩
      go_wp2
      rw [rounds_succ]
      go_wp2_with fail
      refine (O2.out _).mono ?_
      rintro e w1 ⟨rfl, rfl⟩
      go_wp2
      rw [rounds_succ]
      go_wp2_with fail
      refine (O3.out _).mono ?_
      rintro e w1 ⟨rfl, rfl⟩
      go_wp2
      rw [rounds_succ]
      go_wp2
      refine ⟨⟨k + 1, n + (p0 + p1 + p2 + p3), by omega, HX.out.symm, ?_, by go_num, hb.alloc hsz _⟩, by simp [intOf]; omega⟩
      congr 1; omega
    · have he : l.take k = l := List.take_of_length_le (by omega)
      rw [he] at HN
      clear he
      go_wp2
      go_ret
      exact ⟨by rw [← HN.out]; rfl, hb⟩
end Go.Proofs.YtfjagcfbnnbpeaaDoor
