/- rex.chain, Then, Or, Many. -/
import Derived.Test.YtdkdgbiagjflgaaDoorRexF
import Derived.Deep.RegionWith
import Derived.BigRegion
namespace Go.Proofs.YtdkdgbiagjflgaaDoor
open Go.RowKit
def foldR (k o : Nat) : List Rx → Rx
  | [] => .node o Ws.nil []
  | [r] => r
  | r :: r' :: rs => .node k Ws.nil [r, foldR k o (r' :: rs)]
theorem foldR_cons (k o : Nat) (r : Rx) {l : List Rx} (h : l ≠ []) : foldR k o (r :: l) = .node k Ws.nil [r, foldR k o l] := by
  cases l with
  | nil => exact absurd rfl h
  | cons a t => rfl
/-- New blocks but two. -/
def Own (n g b : Nat) : Prop := n + 1 ≤ b ∧ b ≠ g
def chainInv (k o : Nat) (l : List Rx) (w : World) (g : Nat) (y : Value) (wr : World) : Prop := ∃ (j : Nat) (v : Value) (x0 x1 x2 x3 x4 : Int) (al : Option Addr) (n cap : Nat), j < l.length ∧ y = .int .i64 ((j : Int) - 1) ∧
  v = .agg #[.int .u8 x0, .int .u64 x1, .int .u64 x2, .int .u64 x3, .int .u64 x4, .slice al n cap] ∧
  wr.heap[g]? = some (.cells #[.int .u8 x0, .int .u64 x1, .int .u64 x2, .int .u64 x3, .int .u64 x4, .slice al n cap] 30) ∧ wr.heap[w.heap.size]? = some nilBlk ∧
  ReAt (Own w.heap.size g) wr v (foldR k o (l.drop j)) ∧ Below w.heap.size w wr
theorem putW_size (w : World) (g : Nat) (y0 y1 y2 y3 y4 y5 : Value) : (putW w g y0 y1 y2 y3 y4 y5).heap.size = w.heap.size := by simp [putW, World.setCell]
theorem putW_other (w : World) (g : Nat) (y0 y1 y2 y3 y4 y5 : Value) {b : Nat} (h : b ≠ g) : (putW w g y0 y1 y2 y3 y4 y5).heap[b]? = w.heap[b]? := by
  unfold putW
  rw [Below.heap_setCell _ _ _ _ h, Below.heap_setCell _ _ _ _ h, Below.heap_setCell _ _ _ _ h, Below.heap_setCell _ _ _ _ h, Below.heap_setCell _ _ _ _ h, Below.heap_setCell _ _ _ _ h]
/-- The world behind a round of chain. -/
def chainW (w' : World) (g k : Nat) (z0 z1 z2 z3 z4 z5 y0 y1 y2 y3 y4 y5 : Value) : World :=
  (putW w' g (.int .u8 k) (.int .u64 0) (.int .u64 0) (.int .u64 0) (.int .u64 0) (.slice (some ⟨w'.heap.size, 0, none⟩) 2 2)).alloc (.cells #[z0, z1, z2, z3, z4, z5, y0, y1, y2, y3, y4, y5] 30)
theorem chain_step {n0 g k : Nat} {w wr w' : World} {z0 z1 z2 z3 z4 z5 y0 y1 y2 y3 y4 y5 : Value} {r t : Rx} (hk : k < 256) (hn0 : n0 + 1 ≤ g)
    (hG : wr.heap[g]? = some (.cells #[y0, y1, y2, y3, y4, y5] 30)) (hN : wr.heap[n0]? = some nilBlk) (hv : ReAt (Own n0 g) wr (.agg #[y0, y1, y2, y3, y4, y5]) t)
    (hv2 : ReAt (New wr.heap.size) w' (.agg #[z0, z1, z2, z3, z4, z5]) r) (hb2 : Below wr.heap.size wr w') (hb : Below n0 w wr) :
    (chainW w' g k z0 z1 z2 z3 z4 z5 y0 y1 y2 y3 y4 y5).heap[g]? = some (.cells #[.int .u8 k, .int .u64 0, .int .u64 0, .int .u64 0, .int .u64 0, .slice (some ⟨w'.heap.size, 0, none⟩) 2 2] 30) ∧
    (chainW w' g k z0 z1 z2 z3 z4 z5 y0 y1 y2 y3 y4 y5).heap[n0]? = some nilBlk ∧
    ReAt (Own n0 g) (chainW w' g k z0 z1 z2 z3 z4 z5 y0 y1 y2 y3 y4 y5) (.agg #[.int .u8 k, .int .u64 0, .int .u64 0, .int .u64 0, .int .u64 0, .slice (some ⟨w'.heap.size, 0, none⟩) 2 2]) (.node k Ws.nil [r, t]) ∧
    Below n0 w (chainW w' g k z0 z1 z2 z3 z4 z5 y0 y1 y2 y3 y4 y5) := by
  have hg : g < wr.heap.size := (Array.getElem?_eq_some_iff.1 hG).1
  have hs := hb2.size
  have hG' : w'.heap[g]? = some (.cells #[y0, y1, y2, y3, y4, y5] 30) := (hb2.block g hg).trans hG
  have hsz := putW_size w' g (.int .u8 k) (.int .u64 0) (.int .u64 0) (.int .u64 0) (.int .u64 0) (.slice (some ⟨w'.heap.size, 0, none⟩) 2 2)
  have hold : ∀ b, b < w'.heap.size → b ≠ g → (chainW w' g k z0 z1 z2 z3 z4 z5 y0 y1 y2 y3 y4 y5).heap[b]? = w'.heap[b]? := fun b h1 h2 =>
    (Below.heap_alloc _ _ _ (by rw [hsz]; exact h1)).trans (putW_other _ _ _ _ _ _ _ _ h2)
  have hsize : w'.heap.size ≤ (chainW w' g k z0 z1 z2 z3 z4 z5 y0 y1 y2 y3 y4 y5).heap.size := by
    unfold chainW; rw [World.size_alloc, hsz]; omega
  refine ⟨(Below.heap_alloc _ _ _ (by rw [hsz]; omega)).trans (putR hG' _ _ _ _ _ _), (hold n0 (by omega) (by omega)).trans ((hb2.block n0 (by omega)).trans hN), ?_, ?_⟩
  · refine ⟨hk, Ws.nil_ok, _, _, rfl, Nat.le_refl _, by simp, row_two (blk_at _ _ hsz.symm) ?_ ?_ ?_⟩
    · unfold Own; omega
    · refine hv2.go ⟨hsize, fun b h1 h2 => ⟨?_, hold b h1 ?_⟩⟩
      · unfold New at h2; unfold Own; omega
      · unfold New at h2; omega
    · refine hv.go ⟨Nat.le_trans hs hsize, fun b h1 h2 => ⟨h2, ?_⟩⟩
      rw [hold b (by omega) h2.2, hb2.block b h1]
  · have h1 : Below n0 w w' := hb.trans (hb2.mono (by omega))
    exact (putB h1 (by omega : n0 ≤ g) _ _ _ _ _ _).alloc (by rw [hsz]; omega) _
set_option maxHeartbeats 4000000 in
theorem chain_any {ok : Nat → Prop} (k o : Nat) (l : List Rx) (al : Option Addr) (cap : Nat) (w : World) (hk : k < 256) (ho : o < 256) (hlen : l.length < 2199023255552) (h : RowAt ok w al l) :
    Calls Tryd.prog 39 #[.int .u8 k, .int .u8 o, .slice al l.length cap] w (NewPost (foldR k o l) w) := by
  have HR := Lib.hid h
  clear h
  by_cases hl : l = []
  · subst hl
    go_enter Tryd.func39, Tryd.ntmps39
    go_wp2
    exact ret_re (blk_new w _) Tryd.results39 rfl rfl ⟨_, rfl, bareAt _ _ o Ws.nil ho Ws.nil_ok, (Below.refl _ w).alloc (Nat.le_refl _) _⟩
  · have hpos : 0 < l.length := List.length_pos_iff.2 hl
    have e0 : ((l.length : Int) == 0) = false := by simp; omega
    obtain ⟨b, off, hab, hblt, hnode⟩ := HR.out.kid (i := l.length - 1) (by omega)
    subst hab
    have hb0 := (Below.refl _ w).alloc (Nat.le_refl _) nilBlk
    have hkid := NodeAt.below hb0 _ hblt hnode
    have hdrop : l.drop (l.length - 1) = [l[l.length - 1]'(by omega)] := by
      rw [List.drop_eq_getElem_cons (by omega), List.drop_of_length_le (by omega)]
    have HD := Lib.hid hdrop
    clear hdrop hl
    generalize l[l.length - 1]'(by omega) = kid at *
    obtain ⟨k', ⟨ta, tb, tc, td⟩, ks'⟩ := kid
    obtain ⟨al', cap', ⟨c0, c1, c2, c3, c4, c5⟩, hre⟩ := hkid.read
    simp only at c0 c1 c2 c3 c4 c5
    unfold nilBlk at c0 c1 c2 c3 c4 c5
    have HRE := Lib.hid hre
    clear hkid hnode hre
    have q1 : (l.length : Int) - 1 = ((l.length - 1 : Nat) : Int) := by omega
    have q2 : ((l.length - 1 : Nat) : Int) < (l.length : Int) := by omega
    go_enter Tryd.func39, Tryd.ntmps39
    go_wp2_with fail
    refine (cloneR _ _ _ HRE.out).mono ?_
    rintro e w1 ⟨v, rfl, hv, hb1⟩
    obtain ⟨x0, x1, x2, x3, x4, bl, n', cp, rfl⟩ := cells_re hv
    have hsz1 : w.heap.size + 1 ≤ w1.heap.size := by have := hb1.size; simpa using this
    have hbw : Below w.heap.size w w1 := hb0.trans (hb1.mono (by simp))
    have hnb : w1.heap[w.heap.size]? = some nilBlk := (hb1.block _ (by simp)).trans (blk_new w _)
    have HV := Lib.hid hv
    clear hv hb1 c0 c1 c2 c3 c4 c5 HRE hb0
    have HBW := Lib.hid hbw
    have HNB := Lib.hid hnb
    clear hbw hnb
    go_wp2
    go_loopw [9] (fun y wr => chainInv k o l w w1.heap.size y wr) (fun y _ => (intOf y + 1).toNat)
    case atStart =>
      refine ⟨l.length - 1, _, x0, x1, x2, x3, x4, bl, n', cp, by omega, ?_, rfl, blk_new w1 _, (Below.heap_alloc _ _ _ (by omega)).trans HNB.out, ?_, HBW.out.alloc (by omega) _⟩
      · first | rfl | (congr 1; omega)
      · rw [HD.out]
        refine HV.out.go ⟨by simp, fun b hb h => ⟨?_, Below.heap_alloc _ _ _ hb⟩⟩
        unfold New at h; unfold Own
        simp at h; omega
    case round =>
      obtain ⟨j, v, y0, y1, y2, y3, y4, yl, yn, yc, hj, rfl, rfl, hg, hn, hv, hb⟩ := hrel
      have HG := Lib.hid hg
      have HN := Lib.hid hn
      have HV' := Lib.hid hv
      clear hg hn hv HV HBW HNB HD
      have hgs := (Array.getElem?_eq_some_iff.1 HG.out).1
      by_cases hj0 : j = 0
      · subst hj0
        obtain ⟨d0, e1, e2, e3, e4, e5, f0, f1, f2, f3, f4, f5⟩ := cellsR HG.out
        obtain ⟨g0, g1, g2, g3, g4, g5, p0, p1, p2, p3, p4, p5⟩ := cellsR HN.out
        have hp := putR HN.out (.int .u8 y0) (.int .u64 y1) (.int .u64 y2) (.int .u64 y3) (.int .u64 y4) (.slice yl yn yc)
        have hbb := putB hb (Nat.le_refl w.heap.size) (.int .u8 y0) (.int .u64 y1) (.int .u64 y2) (.int .u64 y3) (.int .u64 y4) (.slice yl yn yc)
        have hre : ReAt (New w.heap.size) (putW wr w.heap.size (.int .u8 y0) (.int .u64 y1) (.int .u64 y2) (.int .u64 y3) (.int .u64 y4) (.slice yl yn yc)) (.agg #[.int .u8 y0, .int .u64 y1, .int .u64 y2, .int .u64 y3, .int .u64 y4, .slice yl yn yc]) (foldR k o l) := by
          have h := HV'.out
          rw [List.drop_zero] at h
          refine h.go ⟨by rw [putW_size]; exact Nat.le_refl _, fun b _ hb => ?_⟩
          unfold Own at hb
          exact ⟨by unfold New; omega, putW_other _ _ _ _ _ _ _ _ (by omega)⟩
        unfold putW at hp hbb hre
        have HP := Lib.hid hp
        have HBB := Lib.hid hbb
        have HRE := Lib.hid hre
        clear hp hbb hre
        go_wp2
        exact ret_re HP.out Tryd.results39 rfl rfl ⟨_, rfl, HRE.out, HBB.out⟩
      · have d1 : decide (0 ≤ (j : Int) - 1) = true := by simp; omega
        obtain ⟨b2, off2, hab2, hblt2, hnode2⟩ := HR.out.kid (i := j - 1) (by omega)
        simp at hab2
        obtain ⟨rfl, rfl⟩ := hab2
        have hkid2 := NodeAt.below hb _ hblt2 hnode2
        have hdrop : l.drop (j - 1) = l[j - 1]'(by omega) :: l.drop j := by
          rw [List.drop_eq_getElem_cons (by omega)]; congr 2; omega
        have hne : l.drop j ≠ [] := by simp; omega
        have hfo := foldR_cons k o (l[j - 1]'(by omega)) hne
        rw [← hdrop] at hfo
        have HFO := Lib.hid hfo
        clear hdrop hne hfo hnode2
        generalize l[j - 1]'(by omega) = kid2 at *
        obtain ⟨k2, ⟨sa, sb, sc, sd⟩, ks2⟩ := kid2
        obtain ⟨al2, cap2, ⟨c0, c1, c2, c3, c4, c5⟩, hre⟩ := hkid2.read
        simp only at c0 c1 c2 c3 c4 c5
        have HRE := Lib.hid hre
        clear hkid2 hre
        have r1 : (j : Int) - 1 = ((j - 1 : Nat) : Int) := by omega
        have r2 : ((j - 1 : Nat) : Int) < (l.length : Int) := by omega
        obtain ⟨d0, e1, e2, e3, e4, e5, f0, f1, f2, f3, f4, f5⟩ := cellsR HG.out
        go_wp2_with fail
        have KC := Lib.hid fun W (h : Below wr.heap.size wr W) => cloneR (.node k2 ⟨sa, sb, sc, sd⟩ ks2) _ W (HRE.out.below h)
        go_region_with (go_at_call 36; refine (KC.out _ (Below.refl _ _).drew).mono ?_; (rintro e w' ⟨v2, rfl, hv2, hb2⟩); obtain ⟨z0, z1, z2, z3, z4, zl, zn, zc, rfl⟩ := cells_re hv2; obtain ⟨d0', e1', e2', e3', e4', e5', f0', f1', f2', f3', f4', f5'⟩ := cellsR ((hb2.block _ hgs).trans HG.out); have hgs' : w1.heap.size < w'.heap.size := Nat.lt_of_lt_of_le hgs hb2.size)
        all_goals
          obtain ⟨s1, s2, s3, s4⟩ := chain_step (k := k) hk hsz1 HG.out HN.out HV'.out hv2 ((Below.refl _ wr).drew.trans hb2) hb
          have HS1 := Lib.hid s1
          have HS2 := Lib.hid s2
          have HS3 := Lib.hid s3
          have HS4 := Lib.hid s4
          unfold chainW putW at HS1 HS2 HS3 HS4
          clear s1 s2 s3 s4
          go_wp2
          refine ⟨⟨j - 1, _, k, 0, 0, 0, 0, _, 2, 2, by omega, ?_, rfl, HS1.out, HS2.out, ?_, HS4.out⟩, ?_⟩
          · first | rfl | (congr 1; omega)
          · rw [HFO.out]; exact HS3.out
          · simp [intOf]; omega
/-- A callee's expression comes back through one's own result block. -/
theorem pass_re {w w1 : World} {r : Rx} {x0 x1 x2 x3 x4 x5 : Value} (hv : ReAt (New (w.alloc nilBlk).heap.size) w1 (.agg #[x0, x1, x2, x3, x4, x5]) r) (hb1 : Below (w.alloc nilBlk).heap.size (w.alloc nilBlk) w1) :
    w1.heap[w.heap.size]? = some nilBlk ∧ (putW w1 w.heap.size x0 x1 x2 x3 x4 x5).heap[w.heap.size]? = some (.cells #[x0, x1, x2, x3, x4, x5] 30) ∧
    ReAt (New w.heap.size) (putW w1 w.heap.size x0 x1 x2 x3 x4 x5) (.agg #[x0, x1, x2, x3, x4, x5]) r ∧ Below w.heap.size w (putW w1 w.heap.size x0 x1 x2 x3 x4 x5) := by
  have hn : w1.heap[w.heap.size]? = some nilBlk := (hb1.block _ (by simp)).trans (blk_new w _)
  refine ⟨hn, putR hn _ _ _ _ _ _, ?_, putB (((Below.refl _ w).alloc (Nat.le_refl _) _).trans (hb1.mono (by simp))) (Nat.le_refl _) _ _ _ _ _ _⟩
  refine hv.go ⟨by rw [putW_size]; exact Nat.le_refl _, fun b _ h => ?_⟩
  unfold New at h
  simp at h
  exact ⟨by unfold New; omega, putW_other _ _ _ _ _ _ _ _ (by omega)⟩
theorem then_any {ok : Nat → Prop} (l : List Rx) (al : Option Addr) (cap : Nat) (w : World) (hlen : l.length < 2199023255552) (h : RowAt ok w al l) :
    Calls Tryd.prog 23 #[.slice al l.length cap] w (NewPost (foldR 4 2 l) w) := by
  have K := Lib.hid (chain_any 4 2 l al cap (w.alloc nilBlk) (by decide) (by decide) hlen (h.below ((Below.refl _ w).alloc (Nat.le_refl _) _)))
  generalize foldR 4 2 l = r at *
  go_enter Tryd.func23, Tryd.ntmps23
  go_wp2_with fail
  refine K.out.mono ?_
  rintro e w1 ⟨v, rfl, hv, hb1⟩
  obtain ⟨x0, x1, x2, x3, x4, bl, n', cp, rfl⟩ := cells_re hv
  obtain ⟨hn, h1, h2, h3⟩ := pass_re hv hb1
  obtain ⟨g0, g1, g2, g3, g4, g5, p0, p1, p2, p3, p4, p5⟩ := cellsR hn
  unfold putW at h1 h2 h3
  have H1 := Lib.hid h1
  have H2 := Lib.hid h2
  have H3 := Lib.hid h3
  clear hv hb1 hn h1 h2 h3
  go_wp2
  exact ret_re H1.out Tryd.results23 rfl rfl ⟨_, rfl, H2.out, H3.out⟩
theorem or_any {ok : Nat → Prop} (l : List Rx) (al : Option Addr) (cap : Nat) (w : World) (hlen : l.length < 2199023255552) (h : RowAt ok w al l) :
    Calls Tryd.prog 24 #[.slice al l.length cap] w (NewPost (foldR 5 1 l) w) := by
  have K := Lib.hid (chain_any 5 1 l al cap (w.alloc nilBlk) (by decide) (by decide) hlen (h.below ((Below.refl _ w).alloc (Nat.le_refl _) _)))
  generalize foldR 5 1 l = r at *
  go_enter Tryd.func24, Tryd.ntmps24
  go_wp2_with fail
  refine K.out.mono ?_
  rintro e w1 ⟨v, rfl, hv, hb1⟩
  obtain ⟨x0, x1, x2, x3, x4, bl, n', cp, rfl⟩ := cells_re hv
  obtain ⟨hn, h1, h2, h3⟩ := pass_re hv hb1
  obtain ⟨g0, g1, g2, g3, g4, g5, p0, p1, p2, p3, p4, p5⟩ := cellsR hn
  unfold putW at h1 h2 h3
  have H1 := Lib.hid h1
  have H2 := Lib.hid h2
  have H3 := Lib.hid h3
  clear hv hb1 hn h1 h2 h3
  go_wp2
  exact ret_re H1.out Tryd.results24 rfl rfl ⟨_, rfl, H2.out, H3.out⟩
end Go.Proofs.YtdkdgbiagjflgaaDoor
