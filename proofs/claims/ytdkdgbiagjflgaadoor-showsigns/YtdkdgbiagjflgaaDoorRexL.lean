/- rex.May: the walk over the kids, and the whole. -/
import Derived.Test.YtdkdgbiagjflgaaDoorRexK
namespace Go.Proofs.YtdkdgbiagjflgaaDoor
open Go.RowKit
def idxInv (l : List Rx) (n g gb : Nat) (w : World) (y : Value) (wr : World) : Prop := ∃ i m : Nat, i ≤ l.length ∧ y = .int .i64 i ∧ mayNs (l.take i) n = true ∧ m = n - Rx.sizes (l.take i) ∧ Left wr g m ∧ PtrAt wr gb g ∧ But g w.heap.size w wr
def IdxPost (q : Bool) (n m g : Nat) (w : World) (e : Ending) (w' : World) : Prop := ∃ x : Int, decide (0 ≤ x) = !q ∧ e = .returned (.int .i64 x) ∧ (∃ z : Int, Left w' g z ∧ (q = true → z = (n : Int) - m)) ∧ But g w.heap.size w w'
theorem mayNs_le {l : List Rx} {n : Nat} (h : mayNs l n = true) : Rx.sizes l ≤ n := by
  simp [mayNs] at h; omega
set_option maxHeartbeats 4000000 in
theorem index_of {ok : Nat → Prop} {g N : Nat} (hok : ∀ b, ok b → b ≠ g) (ih : MayAt ok g N) (l : List Rx) (hN : Rx.sizes l ≤ N) (n gb : Nat) (al : Option Addr) (cap : Nat) (w : World) (hn : n ≤ 2000) (hl : l.length < 2199023255552) (hgb : gb ≠ g) (hL : Left w g n) (hP : PtrAt w gb g) (hR : RowAt ok w al l) :
    Calls Tryd.prog 43 #[.slice al l.length cap, .func (.func 58) #[] #[.pointer (some ⟨gb, 0, none⟩)]] w (IdxPost (mayNs l n) n (Rx.sizes l) g w) := by
  have HI := Lib.hid ih
  have HR := Lib.hid hR
  have HL := Lib.hid hL
  have HP := Lib.hid hP
  clear ih hR hL hP
  go_enter Tryd.func43, Tryd.ntmps43
  go_wp2
  go_loopw [8] (fun y wr => idxInv l n g gb w y wr) (fun y _ => l.length - (intOf y).toNat)
  case atStart => exact ⟨0, n, Nat.zero_le _, rfl, by simp [mayNs, goodRs, Rx.sizes], by simp [Rx.sizes], HL.out, HP.out, But.refl _ _ _⟩
  case round =>
    obtain ⟨i, m, hi, rfl, hmay, hm, hleft, hptr, hb⟩ := hrel
    have HM := Lib.hid hm
    have HY := Lib.hid hmay
    have HLe := Lib.hid hleft
    have HPt := Lib.hid hptr
    have hmn : m ≤ 2000 := by omega
    clear hm hmay hleft hptr HL HP
    by_cases hlt : i < l.length
    · obtain ⟨b, off, hab, hblt, hbok, hnode⟩ := HR.out.kidOk hlt
      subst hab
      have hkid := NodeAt.go (hb.kept hok) _ (hb.block b hblt (hok b hbok)) hnode
      have hkz := size_kid hlt
      have HS1 := fun h => mayNs_step (n := n) hlt HY.out h
      have HS2 := fun h => mayNs_stop (n := n) hlt HY.out h
      have htk := sizes_take l i hlt
      rw [← HM.out] at HS1 HS2
      have hsm : mayN l[i] m = true → l[i].size ≤ m := fun h => by simp [mayN] at h; omega
      clear hnode
      generalize l[i] = kid at *
      obtain ⟨k', ⟨ta, tb, tc, td⟩, ks'⟩ := kid
      obtain ⟨al', cap', ⟨c0, c1, c2, c3, c4, c5⟩, hre⟩ := hkid.read
      simp only at c0 c1 c2 c3 c4 c5
      have K := Lib.hid (closure_of HI.out _ (Nat.le_trans hkz hN) m gb _ wr hmn HLe.out HPt.out hre)
      generalize (Rx.node k' ⟨ta, tb, tc, td⟩ ks').size = z at *
      generalize mayN (Rx.node k' ⟨ta, tb, tc, td⟩ ks') m = q at *
      have T1 := Lib.hid HS1
      have T2 := Lib.hid HS2
      have T3 := Lib.hid htk
      have T4 := Lib.hid hsm
      clear hkid hre HS1 HS2 htk hsm
      have q1 : (i : Int) < (l.length : Int) := by omega
      go_wp2_with fail
      refine K.out.mono ?_
      rintro e w1 ⟨rfl, ⟨x, hx, hxz⟩, hb1⟩
      have HX := Lib.hid hx
      have HXZ := Lib.hid hxz
      have HP1 := Lib.hid (show PtrAt w1 gb g from (hb1.block _ HPt.out.lt hgb).trans HPt.out)
      replace hb := hb.trans (hb1.mono hb.size)
      clear hx hxz hb1 c0 c1 c2 c3 c4 c5
      cases q with
      | true =>
        go_wp2
        refine ⟨⟨i + 1, m - z, by omega, by go_num, T1.out trivial, ?_, ?_, HP1.out, hb⟩, by simp [intOf]; omega⟩
        · have := T3.out; have := HM.out; omega
        · have h := HX.out
          rw [HXZ.out trivial] at h
          have := T4.out trivial
          rw [show ((m - z : Nat) : Int) = (m : Int) - z from by omega]
          exact h
      | false =>
        go_wp2
        go_ret
        refine ⟨i, ?_, rfl, ⟨x, HX.out, fun h => ?_⟩, hb⟩
        · rw [T2.out trivial]; simp
        · rw [T2.out trivial] at h; cases h
    · have he : l.take i = l := List.take_of_length_le (by omega)
      rw [he] at HY HM
      go_wp2
      go_ret
      refine ⟨-1, ?_, rfl, ⟨m, HLe.out, fun _ => ?_⟩, hb⟩
      · rw [HY.out]; rfl
      · have := HM.out; have := mayNs_le HY.out; omega
theorem contains_of {ok : Nat → Prop} {g N : Nat} (hok : ∀ b, ok b → b ≠ g) (ih : MayAt ok g N) (l : List Rx) (hN : Rx.sizes l ≤ N) (n gb : Nat) (al : Option Addr) (cap : Nat) (w : World) (hn : n ≤ 2000) (hl : l.length < 2199023255552) (hgb : gb ≠ g) (hL : Left w g n) (hP : PtrAt w gb g) (hR : RowAt ok w al l) :
    Calls Tryd.prog 28 #[.slice al l.length cap, .func (.func 58) #[] #[.pointer (some ⟨gb, 0, none⟩)]] w fun e w' => e = .returned (.bool (!mayNs l n)) ∧ (∃ z : Int, Left w' g z ∧ (mayNs l n = true → z = (n : Int) - Rx.sizes l)) ∧ But g w.heap.size w w' := by
  have K := Lib.hid (index_of hok ih l hN n gb al cap w hn hl hgb hL hP hR)
  clear ih hL hP hR
  generalize mayNs l n = q at *
  go_enter Tryd.func28, Tryd.ntmps28
  go_wp2_with fail
  refine K.out.mono ?_
  rintro e w1 ⟨x, hx, rfl, hz, hb⟩
  have HX := Lib.hid hx
  have HZ := Lib.hid hz
  clear hx hz
  go_wp2
  go_ret
  exact ⟨by rw [← HX.out]; rfl, HZ.out, hb⟩
theorem mayN_node (k : Nat) (s : Ws) (ks : List Rx) (n : Nat) : mayN (.node k s ks) n = (decide (0 < n) && (nodeGood k ks.length (bareB s) && mayNs ks (n - 1))) := by
  unfold mayN mayNs goodR Rx.size
  by_cases h : 0 < n
  · have e : decide (1 + Rx.sizes ks ≤ n) = decide (Rx.sizes ks ≤ n - 1) := by rw [decide_eq_decide]; omega
    rw [e]; simp [h, Bool.and_assoc]
  · have e : decide (1 + Rx.sizes ks ≤ n) = false := by simp; omega
    rw [e]; simp [h]
def mayW (w : World) (g : Nat) (z : Int) (o : Obj) : World := ((w.setCell ⟨g, 0, none⟩ (.int .i64 z)).alloc o).alloc (.cells #[.pointer (some ⟨g, 0, none⟩)] 74)
theorem mayW_facts {w : World} {g : Nat} {y : Int} (h : Left w g y) (z : Int) (o : Obj) :
    Left (mayW w g z o) g z ∧ PtrAt (mayW w g z o) (w.heap.size + 1) g ∧ (mayW w g z o).heap[w.heap.size]? = some o ∧ But g w.heap.size w (mayW w g z o) ∧ (mayW w g z o).heap.size = w.heap.size + 2 := by
  have hg := h.lt
  have hs : (w.setCell ⟨g, 0, none⟩ (.int .i64 z)).heap.size = w.heap.size := by simp [World.setCell]
  refine ⟨(Below.heap_alloc _ _ _ (by rw [World.size_alloc, hs]; omega)).trans ((Below.heap_alloc _ _ _ (by rw [hs]; exact hg)).trans (h.set z)), blk_at _ _ (by rw [World.size_alloc, hs]), (Below.heap_alloc _ _ _ (by rw [World.size_alloc, hs]; omega)).trans (blk_at _ _ hs.symm), ?_, ?_⟩
  · exact ((But.refl g w.heap.size w).set 0 _).trans (But.of (((Below.refl _ _).alloc (by rw [hs]; exact Nat.le_refl _) _).alloc (by rw [World.size_alloc, hs]; omega) _))
  · unfold mayW; rw [World.size_alloc, World.size_alloc, hs]
set_option maxHeartbeats 4000000 in
theorem nodesMay_all {ok : Nat → Prop} {g : Nat} (hok : ∀ b, ok b → b ≠ g) (N : Nat) : MayAt ok g N := by
  induction N with
  | zero => intro r h; have := r.size_pos; omega
  | succ N ih =>
    rintro ⟨k, s, ks⟩ hN n v w hn hL hR
    obtain ⟨hk, hs, al, cap, rfl, hcap, hmax, hrow⟩ := hR
    have hN' : Rx.sizes ks ≤ N := by simp [Rx.size] at hN; omega
    rw [mayN_node]
    have hg := hL.lt
    obtain ⟨c, f⟩ := hL.cells
    have HL := Lib.hid hL
    have KB := Lib.hid fun W => nodeMay_any k s ks.length al cap W hk hmax
    have KC := Lib.hid fun (m gb : Nat) (W : World) (hm : m ≤ 2000) (hgb : gb ≠ g) (hL : Left W g m) (hP : PtrAt W gb g) (hb : But g w.heap.size w W) => contains_of hok ih ks hN' m gb al cap W hm hmax hgb hL hP (hrow.go (hb.kept hok))
    generalize nodeGood k ks.length (bareB s) = q at *
    obtain ⟨sa, sb, sc, sd⟩ := s
    have HSZ := Lib.hid (show (Rx.node k ⟨sa, sb, sc, sd⟩ ks).size = 1 + Rx.sizes ks from by simp [Rx.size])
    clear ih hrow hN hL
    simp only at KB
    go_enter Tryd.func49, Tryd.ntmps49
    by_cases hn0 : n = 0
    · subst hn0
      obtain ⟨m1, m2, m3, m4, m5⟩ := mayW_facts HL.out (-1) (.cells #[.int .u8 k, .int .u64 sa, .int .u64 sb, .int .u64 sc, .int .u64 sd, .slice al ks.length cap] 30)
      unfold mayW at m1 m4
      have M1 := Lib.hid m1
      have M4 := Lib.hid m4
      clear m1 m2 m3 m4 m5
      go_wp2
      go_ret
      exact ⟨by simp, ⟨-1, M1.out, fun h => by simp at h⟩, M4.out⟩
    · have d1 : decide ((n : Int) - 1 < 0) = false := by simp; omega
      have d2 : decide (0 < n) = true := by simp; omega
      have D2 := Lib.hid d2
      obtain ⟨m1, m2, m3, m4, m5⟩ := mayW_facts HL.out ((n : Int) - 1) (.cells #[.int .u8 k, .int .u64 sa, .int .u64 sb, .int .u64 sc, .int .u64 sd, .slice al ks.length cap] 30)
      have M1 := Lib.hid m1
      have M2 := Lib.hid m2
      have M3 := Lib.hid m3
      have M4 := Lib.hid m4
      have M5 := Lib.hid m5
      clear m1 m2 m3 m4 m5 d2
      go_wp2_with fail
      refine (KB.out _).mono ?_
      rintro e w1 ⟨rfl, hb1⟩
      change Below (mayW w g ((n : Int) - 1) (.cells #[.int .u8 k, .int .u64 sa, .int .u64 sb, .int .u64 sc, .int .u64 sd, .slice al ks.length cap] 30)).heap.size (mayW w g ((n : Int) - 1) (.cells #[.int .u8 k, .int .u64 sa, .int .u64 sb, .int .u64 sc, .int .u64 sd, .slice al ks.length cap] 30)) w1 at hb1
      generalize mayW w g ((n : Int) - 1) (.cells #[.int .u8 k, .int .u64 sa, .int .u64 sb, .int .u64 sc, .int .u64 sd, .slice al ks.length cap] 30) = W at *
      have hz := M5.out
      have n1 : Left w1 g ((n : Int) - 1) := (hb1.block _ (by omega)).trans M1.out
      have n2 : PtrAt w1 (w.heap.size + 1) g := (hb1.block _ (by omega)).trans M2.out
      have n3 := (hb1.block w.heap.size (by omega)).trans M3.out
      have n4 : But g w.heap.size w w1 := M4.out.trans (But.of (hb1.mono (by omega)))
      obtain ⟨g0, g1, g2, g3, g4, g5, p0, p1, p2, p3, p4, p5⟩ := cellsR n3
      have N1 := Lib.hid n1
      have N2 := Lib.hid n2
      have N4 := Lib.hid n4
      clear n1 n2 n3 n4 hb1 hz
      cases q with
      | false =>
        go_wp2
        go_ret
        exact ⟨by simp, ⟨(n : Int) - 1, N1.out, fun h => by simp at h⟩, N4.out⟩
      | true =>
        have e1 : ((n - 1 : Nat) : Int) = (n : Int) - 1 := by omega
        have K := Lib.hid (KC.out (n - 1) (w.heap.size + 1) w1 (by omega) (by omega) (by rw [e1]; exact N1.out) N2.out N4.out)
        clear e1
        generalize mayNs ks (n - 1) = q at *
        go_wp2_with fail
        refine K.out.mono ?_
        rintro e w2 ⟨rfl, ⟨z, hz, hzz⟩, hb2⟩
        have HZ := Lib.hid hz
        have HZZ := Lib.hid hzz
        have hb3 : But g w.heap.size w w2 := N4.out.trans (hb2.mono N4.out.size)
        clear hz hzz hb2
        go_wp2
        go_ret
        refine ⟨by rw [D2.out]; simp, ⟨z, HZ.out, fun h => ?_⟩, hb3⟩
        rw [D2.out] at h
        have := HZZ.out (by simpa using h)
        rw [this, HSZ.out]; omega
end Go.Proofs.YtdkdgbiagjflgaaDoor
