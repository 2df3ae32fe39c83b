/- quillref01.ReadHex: the same bytes as num.ReadHex. -/
import Derived.Test.YtglllbolgahacaaNumHexD
namespace Go.Proofs.Ytglllbolgahacaa
open Go.RowKit
theorem alloc_new (w : World) (o : Obj) : (w.alloc o).heap[w.heap.size]? = some o := by
  show (w.heap.push o)[w.heap.size]? = some o
  simp
def refRhInv (s : ByteArray) (w : World) (v i : Value) (wr : World) : Prop :=
  ∃ k : Nat, 2 * k ≤ s.size ∧ i = .int .i64 (2 * (k : Int)) ∧ Below w.heap.size w wr ∧ (∀ j (hj : j < s.size), j < 2 * k → hexOk (s[j]'hj).toNat = true) ∧
    wr.ownsRow w.heap.size 5 1 v k (Lib.byteCells (pairsN s k))
set_option maxHeartbeats 2000000 in
theorem refReadHex_any (s : ByteArray) (w : World) (hsm : s.size ≤ 1000000) :
    Calls Try.prog 10 #[.string s] w (BytesPost (hexBytes s) (.bool (hexAll s)) w) := by
  by_cases hodd : s.size % 2 = 0
  · have d1 : (((s.size : Int) % 2) == 1) = false := by rw [beq_eq_false_iff_ne]; omega
    obtain ⟨i0, hi, hz0, hz1, hz2⟩ := info_parts uInfo
    have hz2' := Lib.hid hz2
    have hod := Lib.hid hodd
    clear hodd
    go_enter Try.func10, Try.ntmps10
    go_wp2
    go_loopw [4, 5] (fun v i wr => refRhInv s w v i wr) (fun _ i _ => s.size - (intOf i).toNat)
    case atStart =>
      refine ⟨0, Nat.zero_le _, rfl, (Below.refl _ w).alloc (Nat.le_refl _) _, fun j hj h => absurd h (Nat.not_lt_zero _), rfl, .inr ⟨w.heap.size, 0, #[], rfl, Nat.le_refl _, alloc_new w _, Nat.le_refl _, Nat.zero_le _, rfl, rfl⟩⟩
    case round =>
      obtain ⟨k, hk, rfl, hb, hall, hown⟩ := hrel
      have HA := Lib.hid hall
      have HO := Lib.hid hown
      have Hb := Lib.hid hb
      clear hall hown
      by_cases hlt : 2 * k < s.size
      · have hlt1 : 2 * k + 1 < s.size := by have := hod.out; omega
        have q1 : (0 : Int) ≤ 2 * (k : Int) := by omega
        have q0 : (0 : Int) ≤ 2 * (k : Int) + 1 := by omega
        have q2 : 2 * (k : Int) < (s.size : Int) := by omega
        have q3 : 2 * (k : Int) + 1 < (s.size : Int) := by omega
        have wx : IntKind.i64.wrap (2 * (k : Int) + 1) = 2 * (k : Int) + 1 := IntWalk.i64_in _ (by omega)
        have c1 : (s[2 * k]'hlt).toNat < 256 := (s[2 * k]'hlt).toNat_lt
        have c2 : (s[2 * k + 1]'hlt1).toNat < 256 := (s[2 * k + 1]'hlt1).toNat_lt
        have t1 : (2 * (k : Int)).toNat = 2 * k := by omega
        have t2 : (2 * (k : Int) + 1).toNat = 2 * k + 1 := by omega
        go_wp2_with fail
        go_quiet ((go_at_call 17; exact Calls.quiet_of_same (refValue_any _ (by omega) _)))
        clear wx
        have HOq := Lib.hid (show (wr.drewN nq).ownsRow w.heap.size 5 1 _ k (Lib.byteCells (pairsN s k)) from HO.out)
        have hbq : Below w.heap.size w (wr.drewN nq) := below_drewN hb nq
        generalize hW : wr.drewN nq = W at *
        have HW := Lib.hid hW
        have hszW := hbq.size
        clear hW
        by_cases ho1 : hexOk (s[2 * k]'hlt).toNat = true
        · have HO1 := Lib.hid ho1
          clear ho1
          rw [valI_yes HO1.out]
          have hv1 := hexVal_lt (s[2 * k]'hlt).toNat
          by_cases ho2 : hexOk (s[2 * k + 1]'hlt1).toNat = true
          · have HO2 := Lib.hid ho2
            clear ho2
            rw [valI_yes HO2.out]
            have hv2 := hexVal_lt (s[2 * k + 1]'hlt1).toNat
            have hpe := Lib.hid (pair_eq s (2 * k + 1) hlt1 _ (by omega) rfl)
            have hge := Lib.hid (getD_at s (2 * k) hlt)
            generalize hg1 : hexVal (s[2 * k]'hlt).toNat = v1 at *
            generalize hg2 : hexVal (s[2 * k + 1]'hlt1).toNat = v2 at *
            have HG1 := Lib.hid hg1
            have HG2 := Lib.hid hg2
            clear hg1 hg2
            have e1 : decide ((v1 : Int) < (0 : Int)) = false := by simp
            have e2 : decide ((v2 : Int) < (0 : Int)) = false := by simp
            have q5 : (0 : Int) ≤ 16 * (v1 : Int) + (v2 : Int) := by omega
            have q6 : 16 * (v1 : Int) + (v2 : Int) ≤ 255 := by omega
            clear c1 c2
            go_wp2_with (at_builtin; refine wpList_append_own _ rfl _ _ 29 rfl w.heap.size 5 i0 (.int .u8 0) 1 1 Try.underlying29 hi hz0 hz1 hz2'.out rfl (by decide) _ _ _ rfl (HOq.out.alloc _) ⟨W.heap.size, 0, none⟩ 1 1 [.int .u8 (16 * (v1 : Int) + (v2 : Int))] rfl rfl ?c1 ?c2 ?c3 ?c4 ?c5 ?_)
            case c1 =>
              intro j u hj
              match j, hj with
              | 0, hj => simp at hj; subst hj; simp [Addr.add]
            case c2 => intro u hu; simp at hu; subst hu; rfl
            case c3 => unfold maxLen; omega
            case c4 => omega
            case c5 => simp; omega
            intro v' w2 hown' hgrow _
            have hb3 : Below w.heap.size w w2 := (hbq.alloc hszW _).grown hgrow (by simp; omega) (fun g hg => by
              obtain ⟨_, ⟨rfl, _⟩ | ⟨g', cap, cur, rfl, hB, _⟩⟩ := HOq.out
              · simp [Value.ownBlock] at hg
              · simp [Value.ownBlock] at hg; omega)
            have HOW := Lib.hid hown'
            clear hgrow hown'
            go_wp2
            refine ⟨⟨k + 1, by omega, by go_num, hb3, ?_, ?_⟩, by simp [intOf]; omega⟩
            · intro j hj h
              by_cases j1 : j = 2 * k
              · subst j1; exact HO1.out
              · by_cases j2 : j = 2 * k + 1
                · subst j2; exact HO2.out
                · exact HA.out j hj (by omega)
            · rw [pairsN_succ, Lib.byteCells_append]
              have : Lib.byteCells [pairB s k] = [.int .u8 (16 * (v1 : Int) + (v2 : Int))] := by
                have h1 := hpe.out
                rw [show (2 * k + 1) / 2 = k from by omega, show 2 * k + 1 - 1 = 2 * k from by omega, hge.out, HG1.out] at h1
                simp only [Lib.byteCells, List.map_cons, List.map_nil, h1]
              rw [this]; exact HOW.out
          · have ho2' : hexOk (s[2 * k + 1]'hlt1).toNat = false := by simpa using ho2
            have hno := Lib.hid (hexBytes_no (hexAll_no s _ hlt1 ho2'))
            have hno2 := Lib.hid (hexAll_no s _ hlt1 ho2')
            rw [valI_no ho2']
            clear ho2 ho2'
            generalize hexVal (s[2 * k]'hlt).toNat = v1 at *
            have e1 : decide ((v1 : Int) < (0 : Int)) = false := by simp
            go_wp2
            go_ret2
            refine ⟨_, _, by rw [hno.out.1, hno2.out]; rfl, hbq.alloc hszW _, ?_⟩
            rw [hno.out.1]; exact ⟨by simp, .inl rfl⟩
        · have ho1' : hexOk (s[2 * k]'hlt).toNat = false := by simpa using ho1
          have hno := Lib.hid (hexBytes_no (hexAll_no s _ hlt ho1'))
          have hno2 := Lib.hid (hexAll_no s _ hlt ho1')
          rw [valI_no ho1']
          clear ho1 ho1'
          go_wp2
          go_ret2
          refine ⟨_, _, by rw [hno.out.1, hno2.out]; rfl, hbq.alloc hszW _, ?_⟩
          rw [hno.out.1]; exact ⟨by simp, .inl rfl⟩
      · have hke : 2 * k = s.size := by omega
        have hys := hexAll_yes s hod.out (fun j hj => HA.out j hj (by omega))
        have hyes := Lib.hid (hexBytes_yes hys)
        have hys2 := Lib.hid hys
        have hk2 : s.size / 2 = k := by omega
        have hk3 := Lib.hid hk2
        obtain ⟨a, cap, rfl, hat⟩ := bytesAt_of_owns (l := pairsN s k) (by rw [pairsN_length]; exact HO.out)
        have HAT := Lib.hid hat
        have d5 : ¬ (2 * (k : Int) < (s.size : Int)) := by omega
        clear hat hke hk2 hys
        go_wp2
        go_ret2
        exact ⟨a, cap, by rw [hyes.out.1, hys2.out, hk3.out]; rfl, hb, by rw [hyes.out.1, hk3.out]; exact HAT.out⟩
  · have d1 : (((s.size : Int) % 2) == 1) = true := by rw [beq_iff_eq]; omega
    have h1 := hexAll_odd s hodd
    rw [(hexBytes_no h1).1, h1]
    clear h1 hodd
    go_enter Try.func10, Try.ntmps10
    go_wp2
    go_ret2
    exact ⟨_, _, rfl, (Below.refl _ w).alloc (Nat.le_refl _) _, by simp, .inl rfl⟩
end Go.Proofs.Ytglllbolgahacaa
