/- The document's Join and Meet; both Orders. -/
import Derived.Test.YtfjagcfbnnbpeaaDoorSetE
import Derived.Deep.QuietTactic
import Derived.BigQuiet
namespace Go.Proofs.YtfjagcfbnnbpeaaDoor
open Go.RowKit
/-- Some bytes put into a set, if they are asked for. -/
def pick (p : Nat → Bool) (z : Ws) (k : Nat) : Ws := (List.range k).foldl (fun s n => if p n = true then s.ins n else s) z
theorem pick_succ (p : Nat → Bool) (z : Ws) (k : Nat) : pick p z (k + 1) = if p k = true then (pick p z k).ins k else pick p z k := by
  unfold pick; rw [List.range_succ, List.foldl_append]; rfl
theorem pick_ok (p : Nat → Bool) {z : Ws} (hz : z.Ok) (k : Nat) : (pick p z k).Ok := by
  induction k with
  | zero => exact hz
  | succ k ih => rw [pick_succ]; split
                 · exact Ws.ins_ok ih k
                 · exact ih
theorem pick_has (p : Nat → Bool) (z : Ws) (k : Nat) (hk : k ≤ 256) (m : Nat) (hm : m < 256) : (pick p z k).has m = (z.has m || (decide (m < k) && p m)) := by
  induction k with
  | zero => simp [pick]
  | succ k ih =>
    rw [pick_succ]
    have ih := ih (by omega)
    split
    · rename_i h
      rw [Ws.has_ins _ _ _ (by omega) hm, ih]
      by_cases e : k = m
      · subst e; simp [h]
      · have : decide (m < k + 1) = decide (m < k) := by rw [decide_eq_decide]; omega
        simp [e, this]
    · rename_i h
      rw [ih]
      by_cases e : k = m
      · subst e; simp [h]
      · have : decide (m < k + 1) = decide (m < k) := by rw [decide_eq_decide]; omega
        rw [this]
theorem pick_join {s t : Ws} (hs : s.Ok) (ht : t.Ok) : pick t.has s 256 = s.join t := by
  apply Ws.has_ext (pick_ok _ hs 256) (Ws.join_ok hs ht)
  intro n hn
  rw [pick_has _ _ _ (Nat.le_refl _) n hn, Ws.has_join]
  simp [hn]
def meetP (s t : Ws) (q : Bool) (n : Nat) : Bool := s.has n && (t.has n == q)
theorem pick_meet {s : Ws} (hs : s.Ok) (t : Ws) : pick (meetP s t true) Ws.nil 256 = s.meet t := by
  apply Ws.has_ext (pick_ok _ Ws.nil_ok 256) (Ws.meet_ok hs t)
  intro n hn
  rw [pick_has _ _ _ (Nat.le_refl _) n hn, Ws.has_meet, Ws.has_nil]
  simp [hn, meetP]
theorem pick_less {s t : Ws} (hs : s.Ok) (ht : t.Ok) : pick (meetP s t false) Ws.nil 256 = s.less t := by
  apply Ws.has_ext (pick_ok _ Ws.nil_ok 256) (Ws.less_ok hs t)
  intro n hn
  rw [pick_has _ _ _ (Nat.le_refl _) n hn, Ws.has_less _ _ ht, Ws.has_nil]
  simp [hn, meetP]
/-- Four blocks: both arguments', the result's, the set's that is made. -/
def pickInv (p : Nat → Bool) (z s t : Ws) (w : World) (i : Value) (wr : World) : Prop := ∃ (k : Nat) (u : Ws), k ≤ 256 ∧ u = pick p z k ∧ i = .int .i64 k ∧ Box wr w.heap.size s ∧ Box wr (w.heap.size + 1) t ∧ Box wr (w.heap.size + 1 + 1) Ws.nil ∧ Box wr (w.heap.size + 1 + 1 + 1) u ∧ Below w.heap.size w wr
set_option maxHeartbeats 2000000 in
theorem refJoin_any (s t : Ws) (w : World) (hs : s.Ok) (ht : t.Ok) :
    Calls Tryd.prog 16 #[s.v, t.v] w fun e w' => e = .returned (s.join t).v ∧ Below w.heap.size w w' := by
  rw [← pick_join hs ht]
  obtain ⟨a, b, c, d⟩ := s
  obtain ⟨a', b', c', d'⟩ := t
  unfold Ws.v
  go_enter Tryd.func16, Tryd.ntmps16
  go_wp2
  go_loopw [6] (fun i wr => pickInv (Ws.has ⟨a', b', c', d'⟩) ⟨a, b, c, d⟩ ⟨a, b, c, d⟩ ⟨a', b', c', d'⟩ w i wr) (fun i _ => 256 - (intOf i).toNat)
  case atStart =>
    refine ⟨0, ⟨a, b, c, d⟩, Nat.zero_le _, rfl, rfl, (((Box.new4 w _ _ _ _).alloc _).alloc _).alloc _, ?_, ?_, ?_, ((((Below.refl _ w).alloc (Nat.le_refl _) _).alloc (by simp) _).alloc (by simp; omega) _).alloc (by simp; omega) _⟩
    · have := ((Box.new4 (w.alloc (.cells #[.int .u64 a, .int .u64 b, .int .u64 c, .int .u64 d] 26)) a' b' c' d').alloc (.cells #[.int .u64 0, .int .u64 0, .int .u64 0, .int .u64 0] 26)).alloc (.cells #[.int .u64 a, .int .u64 b, .int .u64 c, .int .u64 d] 26)
      simpa using this
    · have := (Box.zero ((w.alloc (.cells #[.int .u64 a, .int .u64 b, .int .u64 c, .int .u64 d] 26)).alloc (.cells #[.int .u64 a', .int .u64 b', .int .u64 c', .int .u64 d'] 26))).alloc (.cells #[.int .u64 a, .int .u64 b, .int .u64 c, .int .u64 d] 26)
      simpa using this
    · have := Box.new4 (((w.alloc (.cells #[.int .u64 a, .int .u64 b, .int .u64 c, .int .u64 d] 26)).alloc (.cells #[.int .u64 a', .int .u64 b', .int .u64 c', .int .u64 d'] 26)).alloc (.cells #[.int .u64 0, .int .u64 0, .int .u64 0, .int .u64 0] 26)) a b c d
      simpa using this
  case round =>
    obtain ⟨k, u, hk, hu, rfl, hx, hy, hr, hB, hb⟩ := hrel
    have hsz := hb.size
    have hbs := hB.lt
    have hok : u.Ok := by rw [hu]; exact pick_ok _ hs _
    have HU := Lib.hid hu
    clear hu
    obtain ⟨ua, ub, uc, ud⟩ := u
    by_cases hlt : k < 256
    · have hn := pick_succ (Ws.has ⟨a', b', c', d'⟩) ⟨a, b, c, d⟩ k
      rw [← HU.out] at hn
      obtain ⟨⟨c0, c1, c2, c3⟩, f0, f1, f2, f3⟩ := hy.all
      have hlt' : (k : Int) < 256 := by omega
      by_cases hh : Ws.has ⟨a', b', c', d'⟩ k = true
      · rw [if_pos hh] at hn
        have HN := Lib.hid hn
        have HH := Lib.hid hh
        clear hn hh HU
        go_wp2_with fail
        refine (refHas_any ⟨a', b', c', d'⟩ k _ ht hlt).mono ?_
        rw [HH.out]
        rintro e w1 ⟨rfl, hb1⟩
        replace hx := hx.below hb1 (by omega)
        replace hy := hy.below hb1 (by omega)
        replace hr := hr.below hb1 (by omega)
        replace hB := hB.below hb1 hbs
        replace hb := hb.trans (hb1.mono hsz)
        replace hbs := hB.lt
        replace hsz := hb.size
        clear c0 c1 c2 c3 f0 f1 f2 f3 hb1
        obtain ⟨⟨c0, c1, c2, c3⟩, f0, f1, f2, f3⟩ := hB.all
        go_wp2_with fail
        refine (refWith_any ⟨ua, ub, uc, ud⟩ k _ hok hlt).mono ?_
        rintro e w2 ⟨rfl, hb1⟩
        replace hx := hx.below hb1 (by omega)
        replace hy := hy.below hb1 (by omega)
        replace hr := hr.below hb1 (by omega)
        replace hB := hB.below hb1 hbs
        replace hb := hb.trans (hb1.mono hsz)
        clear c0 c1 c2 c3 f0 f1 f2 f3 hb1
        obtain ⟨⟨c0, c1, c2, c3⟩, f0, f1, f2, f3⟩ := hB.all
        generalize (Ws.mk ua ub uc ud).ins k = s' at *
        obtain ⟨va, vb, vc, vd⟩ := s'
        unfold Ws.v
        go_wp2
        have n1 : w.heap.size ≠ w.heap.size + 1 + 1 + 1 := by omega
        have n2 : w.heap.size + 1 ≠ w.heap.size + 1 + 1 + 1 := by omega
        have n3 : w.heap.size + 1 + 1 ≠ w.heap.size + 1 + 1 + 1 := by omega
        refine ⟨⟨k + 1, ⟨va, vb, vc, vd⟩, by omega, HN.out.symm, by go_num, ?_, ?_, ?_, hB.put4 _ _ _ _, below_put hb (by omega) _ _ _ _⟩, by simp [intOf]; omega⟩
        · exact (((hx.far n1 _).far n1 _).far n1 _).far n1 _
        · exact (((hy.far n2 _).far n2 _).far n2 _).far n2 _
        · exact (((hr.far n3 _).far n3 _).far n3 _).far n3 _
      · rw [if_neg hh] at hn
        have hh' : Ws.has ⟨a', b', c', d'⟩ k = false := by simpa using hh
        have HN := Lib.hid hn
        have HH := Lib.hid hh'
        clear hn hh hh' HU
        go_wp2_with fail
        refine (refHas_any ⟨a', b', c', d'⟩ k _ ht hlt).mono ?_
        rw [HH.out]
        rintro e w1 ⟨rfl, hb1⟩
        go_wp2
        exact ⟨⟨k + 1, ⟨ua, ub, uc, ud⟩, by omega, HN.out.symm, by go_num, hx.below hb1 (by omega), hy.below hb1 (by omega), hr.below hb1 (by omega), hB.below hb1 hbs, hb.trans (hb1.mono hsz)⟩, by simp [intOf]; omega⟩
    · obtain rfl : k = 256 := by omega
      obtain ⟨⟨c0, c1, c2, c3⟩, f0, f1, f2, f3⟩ := hB.all
      obtain ⟨⟨d0, d1, d2, d3⟩, g0, g1, g2, g3⟩ := hr.all
      simp only [Ws.nil] at d0 d1 d2 d3
      go_wp2
      exact ret_box (hr.put4 _ _ _ _) Tryd.results16 rfl rfl ⟨by rw [← HU.out]; rfl, below_put hb (by omega) _ _ _ _⟩
set_option maxHeartbeats 2000000 in
theorem refMeet_true (s t : Ws) (w : World) (hs : s.Ok) (ht : t.Ok) :
    Calls Tryd.prog 18 #[s.v, t.v, .bool true] w fun e w' => e = .returned (pick (meetP s t true) Ws.nil 256).v ∧ Below w.heap.size w w' := by
  obtain ⟨a, b, c, d⟩ := s
  obtain ⟨a', b', c', d'⟩ := t
  unfold Ws.v
  go_enter Tryd.func18, Tryd.ntmps18
  go_wp2
  go_loopw [8] (fun i wr => pickInv (meetP ⟨a, b, c, d⟩ ⟨a', b', c', d'⟩ true) Ws.nil ⟨a, b, c, d⟩ ⟨a', b', c', d'⟩ w i wr) (fun i _ => 256 - (intOf i).toNat)
  case atStart =>
    refine ⟨0, Ws.nil, Nat.zero_le _, rfl, rfl, (((Box.new4 w _ _ _ _).alloc _).alloc _).alloc _, ?_, ?_, ?_, ((((Below.refl _ w).alloc (Nat.le_refl _) _).alloc (by simp) _).alloc (by simp; omega) _).alloc (by simp; omega) _⟩
    · have := ((Box.new4 (w.alloc (.cells #[.int .u64 a, .int .u64 b, .int .u64 c, .int .u64 d] 26)) a' b' c' d').alloc (.cells #[.int .u64 0, .int .u64 0, .int .u64 0, .int .u64 0] 26)).alloc (.cells #[.int .u64 0, .int .u64 0, .int .u64 0, .int .u64 0] 26)
      simpa using this
    · have := (Box.zero ((w.alloc (.cells #[.int .u64 a, .int .u64 b, .int .u64 c, .int .u64 d] 26)).alloc (.cells #[.int .u64 a', .int .u64 b', .int .u64 c', .int .u64 d'] 26))).alloc (.cells #[.int .u64 0, .int .u64 0, .int .u64 0, .int .u64 0] 26)
      simpa using this
    · have := Box.zero (((w.alloc (.cells #[.int .u64 a, .int .u64 b, .int .u64 c, .int .u64 d] 26)).alloc (.cells #[.int .u64 a', .int .u64 b', .int .u64 c', .int .u64 d'] 26)).alloc (.cells #[.int .u64 0, .int .u64 0, .int .u64 0, .int .u64 0] 26))
      simpa using this
  case round =>
    obtain ⟨k, u, hk, hu, rfl, hx, hy, hr, hB, hb⟩ := hrel
    have hsz := hb.size
    have hbs := hB.lt
    have hok : u.Ok := by rw [hu]; exact pick_ok _ Ws.nil_ok _
    have HU := Lib.hid hu
    clear hu
    obtain ⟨ua, ub, uc, ud⟩ := u
    by_cases hlt : k < 256
    · have hn := pick_succ (meetP ⟨a, b, c, d⟩ ⟨a', b', c', d'⟩ true) Ws.nil k
      rw [← HU.out] at hn
      obtain ⟨⟨c0, c1, c2, c3⟩, f0, f1, f2, f3⟩ := hx.all
      have hlt' : (k : Int) < 256 := by omega
      by_cases hh : Ws.has ⟨a, b, c, d⟩ k = true
      · by_cases ht' : Ws.has ⟨a', b', c', d'⟩ k = true
        · rw [if_pos (by simp [meetP, hh, ht'])] at hn
          have HN := Lib.hid hn
          have HH := Lib.hid hh
          have HT := Lib.hid ht'
          clear hn hh ht' HU
          go_wp2_with fail
          refine (refHas_any ⟨a, b, c, d⟩ k _ hs hlt).mono ?_
          rw [HH.out]
          rintro e w1 ⟨rfl, hb1⟩
          replace hx := hx.below hb1 (by omega)
          replace hy := hy.below hb1 (by omega)
          replace hr := hr.below hb1 (by omega)
          replace hB := hB.below hb1 hbs
          replace hb := hb.trans (hb1.mono hsz)
          replace hbs := hB.lt
          replace hsz := hb.size
          clear c0 c1 c2 c3 f0 f1 f2 f3 hb1
          obtain ⟨⟨c0, c1, c2, c3⟩, f0, f1, f2, f3⟩ := hy.all
          go_wp2_with fail
          refine (refHas_any ⟨a', b', c', d'⟩ k _ ht hlt).mono ?_
          rw [HT.out]
          rintro e w3 ⟨rfl, hb1⟩
          replace hx := hx.below hb1 (by omega)
          replace hy := hy.below hb1 (by omega)
          replace hr := hr.below hb1 (by omega)
          replace hB := hB.below hb1 hbs
          replace hb := hb.trans (hb1.mono hsz)
          replace hbs := hB.lt
          replace hsz := hb.size
          clear c0 c1 c2 c3 f0 f1 f2 f3 hb1
          obtain ⟨⟨c0, c1, c2, c3⟩, f0, f1, f2, f3⟩ := hB.all
          go_wp2_with fail
          refine (refWith_any ⟨ua, ub, uc, ud⟩ k _ hok hlt).mono ?_
          rintro e w2 ⟨rfl, hb1⟩
          replace hx := hx.below hb1 (by omega)
          replace hy := hy.below hb1 (by omega)
          replace hr := hr.below hb1 (by omega)
          replace hB := hB.below hb1 hbs
          replace hb := hb.trans (hb1.mono hsz)
          replace hbs := hB.lt
          replace hsz := hb.size
          clear c0 c1 c2 c3 f0 f1 f2 f3 hb1
          obtain ⟨⟨c0, c1, c2, c3⟩, f0, f1, f2, f3⟩ := hB.all
          generalize (Ws.mk ua ub uc ud).ins k = s' at *
          obtain ⟨va, vb, vc, vd⟩ := s'
          unfold Ws.v
          go_wp2
          have n1 : w.heap.size ≠ w.heap.size + 1 + 1 + 1 := by omega
          have n2 : w.heap.size + 1 ≠ w.heap.size + 1 + 1 + 1 := by omega
          have n3 : w.heap.size + 1 + 1 ≠ w.heap.size + 1 + 1 + 1 := by omega
          refine ⟨⟨k + 1, ⟨va, vb, vc, vd⟩, by omega, HN.out.symm, by go_num, ?_, ?_, ?_, hB.put4 _ _ _ _, below_put hb (by omega) _ _ _ _⟩, by simp [intOf]; omega⟩
          · exact (((hx.far n1 _).far n1 _).far n1 _).far n1 _
          · exact (((hy.far n2 _).far n2 _).far n2 _).far n2 _
          · exact (((hr.far n3 _).far n3 _).far n3 _).far n3 _
        · have ht2 : Ws.has ⟨a', b', c', d'⟩ k = false := by simpa using ht'
          rw [if_neg (by simp [meetP, ht2])] at hn
          have HN := Lib.hid hn
          have HH := Lib.hid hh
          have HT := Lib.hid ht2
          clear hn hh ht' ht2 HU
          go_wp2_with fail
          refine (refHas_any ⟨a, b, c, d⟩ k _ hs hlt).mono ?_
          rw [HH.out]
          rintro e w1 ⟨rfl, hb1⟩
          replace hx := hx.below hb1 (by omega)
          replace hy := hy.below hb1 (by omega)
          replace hr := hr.below hb1 (by omega)
          replace hB := hB.below hb1 hbs
          replace hb := hb.trans (hb1.mono hsz)
          replace hbs := hB.lt
          replace hsz := hb.size
          clear c0 c1 c2 c3 f0 f1 f2 f3 hb1
          obtain ⟨⟨c0, c1, c2, c3⟩, f0, f1, f2, f3⟩ := hy.all
          go_wp2_with fail
          refine (refHas_any ⟨a', b', c', d'⟩ k _ ht hlt).mono ?_
          rw [HT.out]
          rintro e w3 ⟨rfl, hb1⟩
          go_wp2
          exact ⟨⟨k + 1, ⟨ua, ub, uc, ud⟩, by omega, HN.out.symm, by go_num, hx.below hb1 (by omega), hy.below hb1 (by omega), hr.below hb1 (by omega), hB.below hb1 hbs, hb.trans (hb1.mono hsz)⟩, by simp [intOf]; omega⟩
      · have hh' : Ws.has ⟨a, b, c, d⟩ k = false := by simpa using hh
        rw [if_neg (by simp [meetP, hh'])] at hn
        have HN := Lib.hid hn
        have HH := Lib.hid hh'
        clear hn hh hh' HU
        go_wp2_with fail
        refine (refHas_any ⟨a, b, c, d⟩ k _ hs hlt).mono ?_
        rw [HH.out]
        rintro e w1 ⟨rfl, hb1⟩
        go_wp2
        exact ⟨⟨k + 1, ⟨ua, ub, uc, ud⟩, by omega, HN.out.symm, by go_num, hx.below hb1 (by omega), hy.below hb1 (by omega), hr.below hb1 (by omega), hB.below hb1 hbs, hb.trans (hb1.mono hsz)⟩, by simp [intOf]; omega⟩
    · obtain rfl : k = 256 := by omega
      obtain ⟨⟨c0, c1, c2, c3⟩, f0, f1, f2, f3⟩ := hB.all
      obtain ⟨⟨d0, d1, d2, d3⟩, g0, g1, g2, g3⟩ := hr.all
      simp only [Ws.nil] at d0 d1 d2 d3
      go_wp2
      exact ret_box (hr.put4 _ _ _ _) Tryd.results18 rfl rfl ⟨by rw [← HU.out]; rfl, below_put hb (by omega) _ _ _ _⟩
set_option maxHeartbeats 2000000 in
theorem refMeet_false (s t : Ws) (w : World) (hs : s.Ok) (ht : t.Ok) :
    Calls Tryd.prog 18 #[s.v, t.v, .bool false] w fun e w' => e = .returned (pick (meetP s t false) Ws.nil 256).v ∧ Below w.heap.size w w' := by
  obtain ⟨a, b, c, d⟩ := s
  obtain ⟨a', b', c', d'⟩ := t
  unfold Ws.v
  go_enter Tryd.func18, Tryd.ntmps18
  go_wp2
  go_loopw [8] (fun i wr => pickInv (meetP ⟨a, b, c, d⟩ ⟨a', b', c', d'⟩ false) Ws.nil ⟨a, b, c, d⟩ ⟨a', b', c', d'⟩ w i wr) (fun i _ => 256 - (intOf i).toNat)
  case atStart =>
    refine ⟨0, Ws.nil, Nat.zero_le _, rfl, rfl, (((Box.new4 w _ _ _ _).alloc _).alloc _).alloc _, ?_, ?_, ?_, ((((Below.refl _ w).alloc (Nat.le_refl _) _).alloc (by simp) _).alloc (by simp; omega) _).alloc (by simp; omega) _⟩
    · have := ((Box.new4 (w.alloc (.cells #[.int .u64 a, .int .u64 b, .int .u64 c, .int .u64 d] 26)) a' b' c' d').alloc (.cells #[.int .u64 0, .int .u64 0, .int .u64 0, .int .u64 0] 26)).alloc (.cells #[.int .u64 0, .int .u64 0, .int .u64 0, .int .u64 0] 26)
      simpa using this
    · have := (Box.zero ((w.alloc (.cells #[.int .u64 a, .int .u64 b, .int .u64 c, .int .u64 d] 26)).alloc (.cells #[.int .u64 a', .int .u64 b', .int .u64 c', .int .u64 d'] 26))).alloc (.cells #[.int .u64 0, .int .u64 0, .int .u64 0, .int .u64 0] 26)
      simpa using this
    · have := Box.zero (((w.alloc (.cells #[.int .u64 a, .int .u64 b, .int .u64 c, .int .u64 d] 26)).alloc (.cells #[.int .u64 a', .int .u64 b', .int .u64 c', .int .u64 d'] 26)).alloc (.cells #[.int .u64 0, .int .u64 0, .int .u64 0, .int .u64 0] 26))
      simpa using this
  case round =>
    obtain ⟨k, u, hk, hu, rfl, hx, hy, hr, hB, hb⟩ := hrel
    have hsz := hb.size
    have hbs := hB.lt
    have hok : u.Ok := by rw [hu]; exact pick_ok _ Ws.nil_ok _
    have HU := Lib.hid hu
    clear hu
    obtain ⟨ua, ub, uc, ud⟩ := u
    by_cases hlt : k < 256
    · have hn := pick_succ (meetP ⟨a, b, c, d⟩ ⟨a', b', c', d'⟩ false) Ws.nil k
      rw [← HU.out] at hn
      obtain ⟨⟨c0, c1, c2, c3⟩, f0, f1, f2, f3⟩ := hx.all
      have hlt' : (k : Int) < 256 := by omega
      by_cases hh : Ws.has ⟨a, b, c, d⟩ k = true
      · by_cases ht' : Ws.has ⟨a', b', c', d'⟩ k = false
        · rw [if_pos (by simp [meetP, hh, ht'])] at hn
          have HN := Lib.hid hn
          have HH := Lib.hid hh
          have HT := Lib.hid ht'
          clear hn hh ht' HU
          go_wp2_with fail
          refine (refHas_any ⟨a, b, c, d⟩ k _ hs hlt).mono ?_
          rw [HH.out]
          rintro e w1 ⟨rfl, hb1⟩
          replace hx := hx.below hb1 (by omega)
          replace hy := hy.below hb1 (by omega)
          replace hr := hr.below hb1 (by omega)
          replace hB := hB.below hb1 hbs
          replace hb := hb.trans (hb1.mono hsz)
          replace hbs := hB.lt
          replace hsz := hb.size
          clear c0 c1 c2 c3 f0 f1 f2 f3 hb1
          obtain ⟨⟨c0, c1, c2, c3⟩, f0, f1, f2, f3⟩ := hy.all
          go_wp2_with fail
          refine (refHas_any ⟨a', b', c', d'⟩ k _ ht hlt).mono ?_
          rw [HT.out]
          rintro e w3 ⟨rfl, hb1⟩
          replace hx := hx.below hb1 (by omega)
          replace hy := hy.below hb1 (by omega)
          replace hr := hr.below hb1 (by omega)
          replace hB := hB.below hb1 hbs
          replace hb := hb.trans (hb1.mono hsz)
          replace hbs := hB.lt
          replace hsz := hb.size
          clear c0 c1 c2 c3 f0 f1 f2 f3 hb1
          obtain ⟨⟨c0, c1, c2, c3⟩, f0, f1, f2, f3⟩ := hB.all
          go_wp2_with fail
          refine (refWith_any ⟨ua, ub, uc, ud⟩ k _ hok hlt).mono ?_
          rintro e w2 ⟨rfl, hb1⟩
          replace hx := hx.below hb1 (by omega)
          replace hy := hy.below hb1 (by omega)
          replace hr := hr.below hb1 (by omega)
          replace hB := hB.below hb1 hbs
          replace hb := hb.trans (hb1.mono hsz)
          replace hbs := hB.lt
          replace hsz := hb.size
          clear c0 c1 c2 c3 f0 f1 f2 f3 hb1
          obtain ⟨⟨c0, c1, c2, c3⟩, f0, f1, f2, f3⟩ := hB.all
          generalize (Ws.mk ua ub uc ud).ins k = s' at *
          obtain ⟨va, vb, vc, vd⟩ := s'
          unfold Ws.v
          go_wp2
          have n1 : w.heap.size ≠ w.heap.size + 1 + 1 + 1 := by omega
          have n2 : w.heap.size + 1 ≠ w.heap.size + 1 + 1 + 1 := by omega
          have n3 : w.heap.size + 1 + 1 ≠ w.heap.size + 1 + 1 + 1 := by omega
          refine ⟨⟨k + 1, ⟨va, vb, vc, vd⟩, by omega, HN.out.symm, by go_num, ?_, ?_, ?_, hB.put4 _ _ _ _, below_put hb (by omega) _ _ _ _⟩, by simp [intOf]; omega⟩
          · exact (((hx.far n1 _).far n1 _).far n1 _).far n1 _
          · exact (((hy.far n2 _).far n2 _).far n2 _).far n2 _
          · exact (((hr.far n3 _).far n3 _).far n3 _).far n3 _
        · have ht2 : Ws.has ⟨a', b', c', d'⟩ k = true := by simpa using ht'
          rw [if_neg (by simp [meetP, ht2])] at hn
          have HN := Lib.hid hn
          have HH := Lib.hid hh
          have HT := Lib.hid ht2
          clear hn hh ht' ht2 HU
          go_wp2_with fail
          refine (refHas_any ⟨a, b, c, d⟩ k _ hs hlt).mono ?_
          rw [HH.out]
          rintro e w1 ⟨rfl, hb1⟩
          replace hx := hx.below hb1 (by omega)
          replace hy := hy.below hb1 (by omega)
          replace hr := hr.below hb1 (by omega)
          replace hB := hB.below hb1 hbs
          replace hb := hb.trans (hb1.mono hsz)
          replace hbs := hB.lt
          replace hsz := hb.size
          clear c0 c1 c2 c3 f0 f1 f2 f3 hb1
          obtain ⟨⟨c0, c1, c2, c3⟩, f0, f1, f2, f3⟩ := hy.all
          go_wp2_with fail
          refine (refHas_any ⟨a', b', c', d'⟩ k _ ht hlt).mono ?_
          rw [HT.out]
          rintro e w3 ⟨rfl, hb1⟩
          go_wp2
          exact ⟨⟨k + 1, ⟨ua, ub, uc, ud⟩, by omega, HN.out.symm, by go_num, hx.below hb1 (by omega), hy.below hb1 (by omega), hr.below hb1 (by omega), hB.below hb1 hbs, hb.trans (hb1.mono hsz)⟩, by simp [intOf]; omega⟩
      · have hh' : Ws.has ⟨a, b, c, d⟩ k = false := by simpa using hh
        rw [if_neg (by simp [meetP, hh'])] at hn
        have HN := Lib.hid hn
        have HH := Lib.hid hh'
        clear hn hh hh' HU
        go_wp2_with fail
        refine (refHas_any ⟨a, b, c, d⟩ k _ hs hlt).mono ?_
        rw [HH.out]
        rintro e w1 ⟨rfl, hb1⟩
        go_wp2
        exact ⟨⟨k + 1, ⟨ua, ub, uc, ud⟩, by omega, HN.out.symm, by go_num, hx.below hb1 (by omega), hy.below hb1 (by omega), hr.below hb1 (by omega), hB.below hb1 hbs, hb.trans (hb1.mono hsz)⟩, by simp [intOf]; omega⟩
    · obtain rfl : k = 256 := by omega
      obtain ⟨⟨c0, c1, c2, c3⟩, f0, f1, f2, f3⟩ := hB.all
      obtain ⟨⟨d0, d1, d2, d3⟩, g0, g1, g2, g3⟩ := hr.all
      simp only [Ws.nil] at d0 d1 d2 d3
      go_wp2
      exact ret_box (hr.put4 _ _ _ _) Tryd.results18 rfl rfl ⟨by rw [← HU.out]; rfl, below_put hb (by omega) _ _ _ _⟩
theorem refMeet_any (s t : Ws) (w : World) (hs : s.Ok) (ht : t.Ok) :
    Calls Tryd.prog 18 #[s.v, t.v, .bool true] w fun e w' => e = .returned (s.meet t).v ∧ Below w.heap.size w w' := by
  rw [← pick_meet hs t]; exact refMeet_true s t w hs ht
theorem refLess_any (s t : Ws) (w : World) (hs : s.Ok) (ht : t.Ok) :
    Calls Tryd.prog 18 #[s.v, t.v, .bool false] w fun e w' => e = .returned (s.less t).v ∧ Below w.heap.size w w' := by
  rw [← pick_less hs ht]; exact refMeet_false s t w hs ht
end Go.Proofs.YtfjagcfbnnbpeaaDoor
