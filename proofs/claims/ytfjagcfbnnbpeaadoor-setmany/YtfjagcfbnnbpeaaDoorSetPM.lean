/- How many bits a word has, as math/bits.OnesCount64 counts them: plain mathematics. -/
import Derived.Test.YtfjagcfbnnbpeaaDoorSetN
namespace Go.Proofs.YtfjagcfbnnbpeaaDoor
/-- How many bits a word has. -/
def bitsN (x : Nat) : Nat := ((List.range 64).filter x.testBit).length
def pop8 (b : Nat) : Nat := ((List.range 8).filter b.testBit).length
def M1 : Nat → Nat | 0 => 0 | k + 1 => 0x55 + 256 * M1 k
def M2 : Nat → Nat | 0 => 0 | k + 1 => 0x33 + 256 * M2 k
def M3 : Nat → Nat | 0 => 0 | k + 1 => 0x0f + 256 * M3 k
theorem and_split (a m q n : Nat) (ha : a < 256) (hm : m < 256) : (a + 256 * q) &&& (m + 256 * n) = (a &&& m) + 256 * (q &&& n) := by
  have e1 : a + 256 * q = 2 ^ 8 * q + a := by omega
  have e2 : m + 256 * n = 2 ^ 8 * n + m := by omega
  have hlt : a &&& m < 2 ^ 8 := Nat.lt_of_le_of_lt Nat.and_le_left ha
  have e3 : (a &&& m) + 256 * (q &&& n) = 2 ^ 8 * (q &&& n) + (a &&& m) := by omega
  rw [e1, e2, e3]
  apply Nat.eq_of_testBit_eq
  intro i
  rw [Nat.testBit_and, Nat.testBit_two_pow_mul_add _ ha, Nat.testBit_two_pow_mul_add _ hm, Nat.testBit_two_pow_mul_add _ hlt]
  by_cases h : i < 8 <;> simp [h]
def s1 (x k : Nat) : Nat := (x / 2 &&& M1 k) + (x &&& M1 k)
def s2 (x k : Nat) : Nat := (x / 4 &&& M2 k) + (x &&& M2 k)
def s3 (x k : Nat) : Nat := (x / 16 + x) &&& M3 k
theorem b1 : ∀ a : Fin 256, ∀ r : Fin 2, ((a.1 / 2 + 128 * r.1) &&& 0x55) = (a.1 / 2 &&& 0x55) := by decide +kernel
theorem b2 : ∀ a : Fin 256, ∀ r : Fin 4, ((a.1 / 4 + 64 * r.1) &&& 0x33) = (a.1 / 4 &&& 0x33) := by decide +kernel
theorem s1_step (a q k : Nat) (ha : a < 256) : s1 (a + 256 * q) (k + 1) = s1 a 1 + 256 * s1 q k := by
  unfold s1
  have e : (a + 256 * q) / 2 = (a / 2 + 128 * (q % 2)) + 256 * (q / 2) := by omega
  have f := b1 ⟨a, ha⟩ ⟨q % 2, by omega⟩
  simp only at f
  have g : M1 1 = 0x55 := rfl
  rw [e, M1, and_split _ _ _ _ (by omega) (by decide), and_split _ _ _ _ ha (by decide), f, g]
  omega
theorem s2_step (a q k : Nat) (ha : a < 256) : s2 (a + 256 * q) (k + 1) = s2 a 1 + 256 * s2 q k := by
  unfold s2
  have e : (a + 256 * q) / 4 = (a / 4 + 64 * (q % 4)) + 256 * (q / 4) := by omega
  have f := b2 ⟨a, ha⟩ ⟨q % 4, by omega⟩
  simp only at f
  have g : M2 1 = 0x33 := rfl
  rw [e, M2, and_split _ _ _ _ (by omega) (by decide), and_split _ _ _ _ ha (by decide), f, g]
  omega
theorem byte12 : ∀ a : Fin 256, s1 a.1 1 < 256 ∧ s2 (s1 a.1 1) 1 < 256 ∧ s2 (s1 a.1 1) 1 % 16 ≤ 4 ∧ s2 (s1 a.1 1) 1 / 16 ≤ 4 ∧ s3 (s2 (s1 a.1 1) 1) 1 = pop8 a.1 ∧ pop8 a.1 ≤ 8 := by decide +kernel
theorem b3 : ∀ h l r : Fin 5, ((h.1 * 16 + l.1) / 16 + (h.1 * 16 + l.1) + 16 * r.1) &&& 0x0f = ((h.1 * 16 + l.1) / 16 + (h.1 * 16 + l.1)) &&& 0x0f := by decide +kernel

theorem s2_nib : ∀ (k x : Nat), s2 (s1 x k) k % 16 ≤ 4
  | 0, x => by simp [s2, M2]
  | k + 1, x => by
    have hx : x = x % 256 + 256 * (x / 256) := by omega
    have hb := byte12 ⟨x % 256, by omega⟩
    simp only at hb
    rw [hx, s1_step _ _ _ (by omega), s2_step _ _ _ hb.1]
    omega
theorem s3_step (a q k : Nat) (h1 : a % 16 ≤ 4) (h2 : a / 16 ≤ 4) (h3 : q % 16 ≤ 4) : s3 (a + 256 * q) (k + 1) = s3 a 1 + 256 * s3 q k := by
  unfold s3
  have e : (a + 256 * q) / 16 + (a + 256 * q) = (a / 16 + a + 16 * (q % 16)) + 256 * (q / 16 + q) := by omega
  have f := b3 ⟨a / 16, by omega⟩ ⟨a % 16, by omega⟩ ⟨q % 16, by omega⟩
  simp only at f
  have ea : a / 16 * 16 + a % 16 = a := by omega
  rw [ea] at f
  have g : M3 1 = 0x0f := rfl
  rw [e, M3, and_split _ _ _ _ (by omega) (by decide), f, g]
def popP : Nat → Nat → Nat
  | _, 0 => 0
  | x, k + 1 => pop8 (x % 256) + 256 * popP (x / 256) k
theorem pop_all : ∀ (k x : Nat), s3 (s2 (s1 x k) k) k = popP x k
  | 0, x => by simp [s3, M3, popP]
  | k + 1, x => by
    have hx : x = x % 256 + 256 * (x / 256) := by omega
    have hb := byte12 ⟨x % 256, by omega⟩
    simp only at hb
    have hn := s2_nib k (x / 256)
    rw [popP, ← pop_all k (x / 256)]
    conv => lhs; rw [hx]
    rw [s1_step _ _ _ (by omega), s2_step _ _ _ hb.1, s3_step _ _ _ hb.2.2.1 hb.2.2.2.1 hn, hb.2.2.2.2.1]
def cnt (x k : Nat) : Nat := ((List.range (8 * k)).filter x.testBit).length
theorem cnt_step (x k : Nat) : cnt x (k + 1) = pop8 (x % 256) + cnt (x / 256) k := by
  unfold cnt pop8
  rw [show 8 * (k + 1) = 8 + 8 * k from by omega, List.range_add, List.filter_append, List.length_append]
  congr 1
  · congr 1
    apply List.filter_congr
    intro j hj
    simp at hj
    rw [show (256 : Nat) = 2 ^ 8 from rfl, Nat.testBit_mod_two_pow]
    simp [hj]
  · rw [List.filter_map, List.length_map]
    congr 1
    apply List.filter_congr
    intro j _
    simp only [Function.comp]
    rw [show (256 : Nat) = 2 ^ 8 from rfl, Nat.testBit_div_two_pow, Nat.add_comm]
theorem pop8_le (x : Nat) : pop8 (x % 256) ≤ 8 := (byte12 ⟨x % 256, by omega⟩).2.2.2.2.2
theorem div65536 (a b V : Nat) (ha : a ≤ 255) (hb : b ≤ 255) : (a + 256 * (b + 256 * V)) / 65536 = V := by omega
theorem div32 (a b c d V : Nat) (ha : a ≤ 255) (hb : b ≤ 255) (hc : c ≤ 255) (hd : d ≤ 255) : (a + 256 * (b + 256 * (c + 256 * (d + 256 * V)))) / 4294967296 = V := by omega
theorem two_up (p0 p1 p2 U1 U2 U3 : Nat) (h1 : U1 = p1 + 256 * U2) (h2 : U2 = p2 + 256 * U3) : (p0 + 256 * U1) + U1 = (p0 + p1) + 256 * ((p1 + p2) + 256 * (U2 + U3)) := by omega
theorem four_up (a b c d A B : Nat) : (a + 256 * (b + 256 * A)) + (c + 256 * (d + 256 * B)) = (a + c) + 256 * ((b + d) + 256 * (A + B)) := by omega
theorem end128 (r0 r4 X Y : Nat) (h : r0 + r4 ≤ 127) : (r0 + 256 * X + (r4 + 256 * Y)) % 128 = r0 + r4 := by omega
theorem fold_bytes (p0 p1 p2 p3 p4 p5 p6 p7 U0 U1 U2 U3 U4 U5 U6 U7 : Nat) (h0 : p0 ≤ 8) (h1 : p1 ≤ 8) (h2 : p2 ≤ 8) (h3 : p3 ≤ 8) (h4 : p4 ≤ 8) (h5 : p5 ≤ 8) (h6 : p6 ≤ 8) (h7 : p7 ≤ 8)
    (u0 : U0 = p0 + 256 * U1) (u1 : U1 = p1 + 256 * U2) (u2 : U2 = p2 + 256 * U3) (u3 : U3 = p3 + 256 * U4) (u4 : U4 = p4 + 256 * U5) (u5 : U5 = p5 + 256 * U6) (u6 : U6 = p6 + 256 * U7) (u7 : U7 = p7 + 256 * 0) :
    U0 < 648518346341351425 ∧ U0 + U0 / 256 < 1297036692682702849 ∧ (U0 + U0 / 256) + (U0 + U0 / 256) / 65536 < 2594073385365405697 ∧
      (U0 + U0 / 256) + (U0 + U0 / 256) / 65536 + ((U0 + U0 / 256) + (U0 + U0 / 256) / 65536) / 4294967296 < 9223372036854775808 ∧
      ((U0 + U0 / 256) + (U0 + U0 / 256) / 65536 + ((U0 + U0 / 256) + (U0 + U0 / 256) / 65536) / 4294967296) % 128 = p0 + (p1 + (p2 + (p3 + (p4 + (p5 + (p6 + (p7 + 0))))))) := by
  have b7 : U7 ≤ 8 := by clear u0 u1 u2 u3 u4 u5 u6; omega
  have b6 : U6 ≤ 2056 := by clear u0 u1 u2 u3 u4 u5 u7; omega
  have b5 : U5 ≤ 526344 := by clear u0 u1 u2 u3 u4 u6 u7; omega
  have b4 : U4 ≤ 134744072 := by clear u0 u1 u2 u3 u5 u6 u7; omega
  have b3 : U3 ≤ 34494482440 := by clear u0 u1 u2 u4 u5 u6 u7; omega
  have b2 : U2 ≤ 8830587504648 := by clear u0 u1 u3 u4 u5 u6 u7; omega
  have b1 : U1 ≤ 2260630401189896 := by clear u0 u2 u3 u4 u5 u6 u7; omega
  have b0 : U0 ≤ 578721382704613384 := by clear u1 u2 u3 u4 u5 u6 u7; omega
  have d0 : U0 / 256 = U1 := by clear u1 u2 u3 u4 u5 u6 u7; omega
  rw [d0]
  have v0 : U0 + U1 = (p0 + p1) + 256 * ((p1 + p2) + 256 * (U2 + U3)) := by rw [u0]; exact two_up p0 p1 p2 U1 U2 U3 u1 u2
  have v2 : U2 + U3 = (p2 + p3) + 256 * ((p3 + p4) + 256 * (U4 + U5)) := by rw [u2]; exact two_up p2 p3 p4 U3 U4 U5 u3 u4
  have v4 : U4 + U5 = (p4 + p5) + 256 * ((p5 + p6) + 256 * (U6 + U7)) := by rw [u4]; exact two_up p4 p5 p6 U5 U6 U7 u5 u6
  have v6 : U6 + U7 = (p6 + p7) + 256 * ((p7 + 0) + 256 * (0 + 0)) := by rw [u6]; exact two_up p6 p7 0 U7 0 0 u7 rfl
  have d1 : (U0 + U1) / 65536 = U2 + U3 := by rw [v0]; exact div65536 _ _ _ (by omega) (by omega)
  rw [d1]
  have w0 : (U0 + U1) + (U2 + U3) = (p0 + p1 + (p2 + p3)) + 256 * ((p1 + p2 + (p3 + p4)) + 256 * ((p2 + p3 + (p4 + p5)) + 256 * ((p3 + p4 + (p5 + p6)) + 256 * ((U4 + U5) + (U6 + U7))))) := by
    have e1 : (U0 + U1) + (U2 + U3) = (p0 + p1 + (p2 + p3)) + 256 * ((p1 + p2 + (p3 + p4)) + 256 * ((U2 + U3) + (U4 + U5))) := by
      rw [v0]; conv => lhs; rhs; rw [v2]
      exact four_up _ _ _ _ _ _
    have e2 : (U2 + U3) + (U4 + U5) = (p2 + p3 + (p4 + p5)) + 256 * ((p3 + p4 + (p5 + p6)) + 256 * ((U4 + U5) + (U6 + U7))) := by
      rw [v2]; conv => lhs; rhs; rw [v4]
      exact four_up _ _ _ _ _ _
    rw [e1, e2]
  have d2 : ((U0 + U1) + (U2 + U3)) / 4294967296 = (U4 + U5) + (U6 + U7) := by rw [w0]; exact div32 _ _ _ _ _ (by omega) (by omega) (by omega) (by omega)
  rw [d2]
  have w4 : (U4 + U5) + (U6 + U7) = (p4 + p5 + (p6 + p7)) + 256 * ((p5 + p6 + (p7 + 0)) + 256 * ((U6 + U7) + (0 + 0))) := by
    rw [v4]; conv => lhs; rhs; rw [v6]
    exact four_up _ _ _ _ _ _
  refine ⟨by clear u0 u1 u2 u3 u4 u5 u6 u7 v0 v2 v4 v6 w0 w4 d0 d1 d2; omega, by clear u0 u1 u2 u3 u4 u5 u6 u7 v0 v2 v4 v6 w0 w4 d0 d1 d2; omega, by clear u0 u1 u2 u3 u4 u5 u6 u7 v0 v2 v4 v6 w0 w4 d0 d1 d2; omega, by clear u0 u1 u2 u3 u4 u5 u6 u7 v0 v2 v4 v6 w0 w4 d0 d1 d2; omega, ?_⟩
  rw [w0]
  conv => lhs; lhs; rhs; rw [w4]
  rw [end128 _ _ _ _ (by clear u0 u1 u2 u3 u4 u5 u6 u7 v0 v2 v4 v6 w0 w4 d0 d1 d2; omega)]
  clear u0 u1 u2 u3 u4 u5 u6 u7 v0 v2 v4 v6 w0 w4 d0 d1 d2
  omega
theorem pop_sum (x u : Nat) (hu : u = s3 (s2 (s1 x 8) 8) 8) : u < 648518346341351425 ∧ u + u / 256 < 1297036692682702849 ∧ (u + u / 256) + (u + u / 256) / 65536 < 2594073385365405697 ∧
      (u + u / 256) + (u + u / 256) / 65536 + ((u + u / 256) + (u + u / 256) / 65536) / 4294967296 < 9223372036854775808 ∧
      ((u + u / 256) + (u + u / 256) / 65536 + ((u + u / 256) + (u + u / 256) / 65536) / 4294967296) % 128 = bitsN x := by
  have hu' : u = popP x 8 := by rw [hu]; exact pop_all 8 x
  have hc : bitsN x = cnt x 8 := rfl
  rw [hc, cnt_step, cnt_step, cnt_step, cnt_step, cnt_step, cnt_step, cnt_step, cnt_step, show cnt _ 0 = 0 from rfl]
  exact fold_bytes _ _ _ _ _ _ _ _ u _ _ _ _ _ _ _ (pop8_le _) (pop8_le _) (pop8_le _) (pop8_le _) (pop8_le _) (pop8_le _) (pop8_le _) (pop8_le _) hu' rfl rfl rfl rfl rfl rfl rfl
theorem s1_lt (x : Nat) : s1 x 8 < 18446744073709551616 := by
  have h1 : x / 2 &&& M1 8 ≤ M1 8 := Nat.and_le_right
  have h2 : x &&& M1 8 ≤ M1 8 := Nat.and_le_right
  have h3 : M1 8 = 6148914691236517205 := rfl
  unfold s1; omega
theorem s2_lt (x : Nat) : s2 x 8 < 18446744073709551616 := by
  have h1 : x / 4 &&& M2 8 ≤ M2 8 := Nat.and_le_right
  have h2 : x &&& M2 8 ≤ M2 8 := Nat.and_le_right
  have h3 : M2 8 = 3689348814741910323 := rfl
  unfold s2; omega
theorem bits_upto (s : Ws) (i : Nat) : (upto s (64 * (i + 1))).length = (upto s (64 * i)).length + bitsN (s.get i) := by
  unfold upto bitsN
  rw [show 64 * (i + 1) = 64 * i + 64 from by omega, List.range_add, List.filter_append, List.length_append, List.filter_map, List.length_map]
  congr 2
  apply List.filter_congr
  intro j hj
  simp at hj
  simp only [Function.comp]
  exact has_word s i j hj
theorem count_words (s : Ws) : (bytesN s).length = bitsN s.a + bitsN s.b + bitsN s.c + bitsN s.d := by
  have h1 := bits_upto s 0
  have h2 := bits_upto s 1
  have h3 := bits_upto s 2
  have h4 := bits_upto s 3
  rw [← upto_all]
  have e0 : (upto s (64 * 0)).length = 0 := rfl
  have g0 : s.get 0 = s.a := rfl
  have g1 : s.get 1 = s.b := rfl
  have g2 : s.get 2 = s.c := rfl
  have g3 : s.get 3 = s.d := rfl
  rw [g0] at h1; rw [g1] at h2; rw [g2] at h3; rw [g3] at h4
  have e4 : (upto s 256) = upto s (64 * (3 + 1)) := rfl
  rw [e4, h4, show 64 * 3 = 64 * (2 + 1) from rfl, h3, show 64 * 2 = 64 * (1 + 1) from rfl, h2, show 64 * 1 = 64 * (0 + 1) from rfl, h1, e0]
  omega
theorem bitsN_le (x : Nat) : bitsN x ≤ 64 := by
  have := List.length_filter_le x.testBit (List.range 64)
  simpa [bitsN] using this
end Go.Proofs.YtfjagcfbnnbpeaaDoor
