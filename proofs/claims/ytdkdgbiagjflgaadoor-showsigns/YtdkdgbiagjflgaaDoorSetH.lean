/- math/bits.TrailingZeros64; the document's Bytes; set.Bytes. -/
import Derived.Test.YtdkdgbiagjflgaaDoorSetG
import Derived.Test.YtdkdgbiagjflgaaDoorSetF
import Derived.Test.YtdkdgbiagjflgaaDoorSetN
import Derived.Test.YtdkdgbiagjflgaaDoorNumBuild
import Derived.Test.YtdkdgbiagjflgaaDoorOwnT
import Derived.Laws.Bits64b
import Derived.OwnWalk
namespace Go.Proofs.YtdkdgbiagjflgaaDoor
open Go.RowKit
/-- The table that math/bits reads lies in the world. -/
def Tab (w : World) : Prop := 1 < w.heap.size ∧ ∀ j, j < 64 → w.cell? ⟨1, j, none⟩ = some (.int .u8 (Lib.deBruijn64tab.getD j 0))
theorem Tab.below {B : Nat} {w w' : World} (h : Tab w) (hb : Below B w w') (hB : 1 < B) : Tab w' :=
  ⟨Nat.lt_of_lt_of_le h.1 hb.size, fun j hj => by rw [hb.cell (p := ⟨1, j, none⟩) hB]; exact h.2 j hj⟩
theorem tz_key (x a : Nat) (hx : x < 18446744073709551616) (hx0 : x ≠ 0) (hlow : x &&& (18446744073709551616 - x) = a) :
    IntKind.u64.wrap (bits BinOp.and IntKind.u64 (x : Int) (IntKind.u64.wrap (-(x : Int))) * 285870213051353865) / 288230376151711744 = ((a * 285870213051353865 % 18446744073709551616 / 288230376151711744 : Nat) : Int) := by
  have e1 : IntKind.u64.wrap (-(x : Int)) = ((18446744073709551616 - x : Nat) : Int) := by rw [IntKind.wrap_u64]; omega
  rw [e1, u64_and_nat x _ hx (by omega), hlow, IntKind.wrap_u64]
  omega
set_option maxHeartbeats 1000000 in
theorem tz_core (x k idx : Nat) (w : World) (hx0 : ((x : Int) == 0) = false)
    (key : IntKind.u64.wrap (bits BinOp.and IntKind.u64 (x : Int) (IntKind.u64.wrap (-(x : Int))) * 285870213051353865) / 288230376151711744 = (idx : Int))
    (hi : idx < 64) (hk : k < 64) (hcell : w.cell? ⟨1, idx, none⟩ = some (.int .u8 k)) :
    Calls Tryd.prog 65 #[.int .u64 x] w fun e w' => e = .returned (.int .i64 k) ∧ w = w' := by
  go_enter Tryd.func65, Tryd.ntmps65
  go_wp2_with (simp only [key])
  go_ret
  exact ⟨rfl, rfl⟩
theorem tz_any (x : Nat) (w : World) (hx : x < 18446744073709551616) (hx0 : x ≠ 0) (hT : Tab w) :
    Calls Tryd.prog 65 #[.int .u64 x] w fun e w' => e = .returned (.int .i64 (Lib.ctz 64 x)) ∧ w = w' := by
  obtain ⟨hlow, hk⟩ := Lib.lowest_bit 64 x hx0 hx
  obtain ⟨hi, htab⟩ := Lib.deBruijn64_at _ hk
  have hcell := hT.2 _ hi
  rw [htab] at hcell
  exact tz_core x _ _ w (by simp; omega) (tz_key x _ hx hx0 hlow) hi hk hcell
theorem own_ne_box {w : World} {B g : Nat} {s : Ws} {v : Value} {n : Nat} {xs : List Value} (h : w.ownsRow B 5 1 v n xs) (hx : Box w g s) : some g ≠ v.ownBlock := by
  intro hv
  obtain ⟨_, ⟨rfl, _⟩ | ⟨g', cap, cur, rfl, _, hg, _⟩⟩ := h
  · simp [Value.ownBlock] at hv
  · simp [Value.ownBlock] at hv; subst hv
    unfold Box at hx
    rw [hg] at hx
    simp at hx
theorem cell_byte (n : Nat) (h : n < 256) : Lib.byteCells (u8s [n]) = [.int .u8 n] := by
  have : (UInt8.ofNat n).toNat = n := by simp; omega
  simp [u8s, Lib.byteCells, this]
def bytesInv (s : Ws) (w : World) (v i : Value) (wr : World) : Prop := ∃ k : Nat, k ≤ 256 ∧ i = .int .i64 k ∧ Box wr w.heap.size s ∧ Below w.heap.size w wr ∧ wr.ownsRow w.heap.size 5 1 v (upto s k).length (Lib.byteCells (u8s (upto s k)))
set_option maxHeartbeats 2000000 in
theorem refBytes_any (s : Ws) (w : World) (hs : s.Ok) :
    Calls Tryd.prog 44 #[s.v] w (BytesRet (u8s (bytesN s)) w) := by
  obtain ⟨a, b, c, d⟩ := s
  obtain ⟨i0, hi, hz0, hz1, hz2⟩ := info_parts uInfo
  have hz2' := Lib.hid hz2
  clear hz2
  unfold Ws.v
  go_enter Tryd.func44, Tryd.ntmps44
  go_wp2
  go_loopw [3, 4] (fun v i wr => bytesInv ⟨a, b, c, d⟩ w v i wr) (fun _ i _ => 256 - (intOf i).toNat)
  case atStart =>
    refine ⟨0, Nat.zero_le _, rfl, (Box.new4 w _ _ _ _).alloc _, ((Below.refl _ w).alloc (Nat.le_refl _) _).alloc (by simp) _, rfl, .inr ⟨w.heap.size + 1, 0, #[], rfl, by omega, ?_, Nat.le_refl _, Nat.zero_le _, rfl, rfl⟩⟩
    have := new_block (w.alloc (.cells #[.int .u64 a, .int .u64 b, .int .u64 c, .int .u64 d] 28)) (.cells #[] 5)
    simpa using this
  case round =>
    obtain ⟨k, hk, rfl, hx, hb, hown⟩ := hrel
    have HO := Lib.hid hown
    clear hown
    have hsz := hb.size
    have hbs := hx.lt
    by_cases hlt : k < 256
    · have hn := upto_succ ⟨a, b, c, d⟩ k
      have hlt' : (k : Int) < 256 := by omega
      obtain ⟨⟨c0, c1, c2, c3⟩, -⟩ := hx.all
      by_cases hh : Ws.has ⟨a, b, c, d⟩ k = true
      · rw [if_pos hh] at hn
        have HN := Lib.hid hn
        have HH := Lib.hid hh
        clear hn hh
        go_wp2_with fail
        refine (refHas_any ⟨a, b, c, d⟩ k _ hs hlt).mono ?_
        rw [HH.out]
        rintro e w1 ⟨rfl, hb1⟩
        replace hx := hx.below hb1 hbs
        replace hb := hb.trans (hb1.mono hsz)
        have HO1 := Lib.hid (own_below HO.out hb1)
        replace hsz := hb.size
        replace hbs := hx.lt
        have hlen := upto_length ⟨a, b, c, d⟩ k
        clear c0 c1 c2 c3 hb1
        go_wp2_with (at_builtin; refine wpList_append_own _ rfl _ _ 47 rfl w.heap.size 5 i0 (.int .u8 0) 1 1 Tryd.underlying47 hi hz0 hz1 hz2'.out rfl (by decide) _ _ _ rfl (HO1.out.alloc _) ⟨w1.heap.size, 0, none⟩ 1 1 [.int .u8 k] rfl rfl ?c1 ?c2 ?c3 ?c4 ?c5 ?_)
        case c1 =>
          intro j u hj
          match j, hj with
          | 0, hj => simp at hj; subst hj; simp [Addr.add]
        case c2 => intro u hu; simp at hu; subst hu; rfl
        case c3 => unfold maxLen; omega
        case c4 => omega
        case c5 => simp; omega
        intro v' w2 hown' hgrow _
        have hb3 : Below w.heap.size w w2 := (hb.alloc hsz _).grown hgrow (by simp; omega) (own_ge HO1.out)
        have hx3 : Box w2 w.heap.size ⟨a, b, c, d⟩ := (hgrow.block _ (by simp; omega) (own_ne_box HO1.out hx)).trans (hx.alloc _)
        have HOW := Lib.hid hown'
        clear hgrow hown'
        go_wp2
        refine ⟨⟨k + 1, by omega, by go_num, hx3, hb3, ?_⟩, by simp [intOf]; omega⟩
        rw [HN.out, u8s_append, Lib.byteCells_append, cell_byte k hlt, List.length_append]
        exact HOW.out
      · rw [if_neg hh] at hn
        have hh' : Ws.has ⟨a, b, c, d⟩ k = false := by simpa using hh
        have HN := Lib.hid hn
        have HH := Lib.hid hh'
        clear hn hh hh'
        go_wp2_with fail
        refine (refHas_any ⟨a, b, c, d⟩ k _ hs hlt).mono ?_
        rw [HH.out]
        rintro e w1 ⟨rfl, hb1⟩
        go_wp2
        refine ⟨⟨k + 1, by omega, by go_num, hx.below hb1 hbs, hb.trans (hb1.mono hsz), ?_⟩, by simp [intOf]; omega⟩
        rw [HN.out]; exact own_below HO.out hb1
    · obtain rfl : k = 256 := by omega
      obtain ⟨a', cap, rfl, hcap, hat⟩ := ret_bytes (l := u8s (upto ⟨a, b, c, d⟩ 256)) (by rw [u8s_length]; exact HO.out)
      go_wp2
      go_ret
      exact ⟨a', cap, rfl, hcap, hb, hat⟩
end Go.Proofs.YtdkdgbiagjflgaaDoor
