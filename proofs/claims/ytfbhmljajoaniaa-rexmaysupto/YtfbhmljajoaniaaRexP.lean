/- quillref03's Fold. -/
import Derived.Test.YtfbhmljajoaniaaRexN
namespace Go.Proofs.Ytfbhmljajoaniaa
open Go.RowKit
def Low (ok : Nat → Prop) (n b : Nat) : Prop := (ok b ∧ b < n) ∨ n + 1 ≤ b
theorem nodes_tail {ok : Nat → Prop} {w : World} {b off : Nat} {r : Rx} {rs : List Rx} (h : NodesAt ok w b off (r :: rs)) : NodesAt ok w b (off + 6) rs := by
  unfold NodesAt at h; exact h.2
theorem fold_kept {w W w' : World} {ok : Nat → Prop} (hbW : Below w.heap.size w W) (hsW : W.heap.size = w.heap.size + 1) (hb2 : Below W.drew.heap.size W.drew w') : Kept ok (fun b => (ok b ∧ b < w.heap.size) ∨ W.drew.heap.size ≤ b) w w' := by
  have hb : Below w.heap.size w w' := hbW.drew.trans (hb2.mono (by show w.heap.size ≤ W.heap.size; omega))
  exact ⟨hb.size, fun b h1 h2 => ⟨.inl ⟨h2, h1⟩, hb.block b h1⟩⟩
theorem fold_le {w W : World} (hsW : W.heap.size = w.heap.size + 1) : w.heap.size ≤ W.drew.heap.size := by show w.heap.size ≤ W.heap.size; omega
theorem fold_nil {w W w' w'' : World} (hsW : W.heap.size = w.heap.size + 1) (hn : W.heap[w.heap.size]? = some nilBlk) (hb2 : Below W.drew.heap.size W.drew w') (hb3 : Below w'.heap.size w' w'') : w''.heap[w.heap.size]? = some nilBlk := by
  have h1 : w'.heap[w.heap.size]? = some nilBlk := (hb2.block _ (by show w.heap.size < W.heap.size; omega)).trans hn
  exact (hb3.block _ (Array.getElem?_eq_some_iff.1 h1).1).trans h1
abbrev FoldC (x : World) (b off : Nat) (x0 x1 x2 x3 x4 x5 : Value) : Prop := x.cell? ⟨b, off, none⟩ = some x0 ∧ x.cell? ⟨b, off + 1, none⟩ = some x1 ∧ x.cell? ⟨b, off + 2, none⟩ = some x2 ∧ x.cell? ⟨b, off + 3, none⟩ = some x3 ∧ x.cell? ⟨b, off + 4, none⟩ = some x4 ∧ x.cell? ⟨b, off + 5, none⟩ = some x5
theorem foldC_go {W x : World} {b off B : Nat} {x0 x1 x2 x3 x4 x5 : Value} (h : FoldC W b off x0 x1 x2 x3 x4 x5) (hb : b < B) (hx : Below B W x) : FoldC x b off x0 x1 x2 x3 x4 x5 := by
  obtain ⟨d0, d1, d2, d3, d4, d5⟩ := h
  have e := fun o => hx.cell (p := ⟨b, o, none⟩) hb
  exact ⟨by rw [e]; exact d0, by rw [e]; exact d1, by rw [e]; exact d2, by rw [e]; exact d3, by rw [e]; exact d4, by rw [e]; exact d5⟩
theorem fold_end {w W w' w'' : World} {ok : Nat → Prop} {r : Rx} {y0 y1 y2 y3 y4 y5 : Value} (hbW : Below w.heap.size w W) (hsW : W.heap.size = w.heap.size + 1) (hn : W.heap[w.heap.size]? = some nilBlk) (hb2 : Below W.drew.heap.size W.drew w') (hb3 : Below w'.heap.size w' w'')
    (hu : ReAt (fun b => ((ok b ∧ b < w.heap.size) ∨ W.drew.heap.size ≤ b) ∨ w'.heap.size ≤ b) w'' (.agg #[y0, y1, y2, y3, y4, y5]) r) :
    (putW w'' w.heap.size y0 y1 y2 y3 y4 y5).heap[w.heap.size]? = some (.cells #[y0, y1, y2, y3, y4, y5] 30) ∧
    ReAt (fun b => ok b ∨ w.heap.size ≤ b) (putW w'' w.heap.size y0 y1 y2 y3 y4 y5) (.agg #[y0, y1, y2, y3, y4, y5]) r ∧ Below w.heap.size w (putW w'' w.heap.size y0 y1 y2 y3 y4 y5) := by
  have h1 : W.heap.size ≤ w'.heap.size := hb2.size
  have h2 := hb3.size
  have hd : W.drew.heap.size = W.heap.size := rfl
  refine ⟨putR (fold_nil hsW hn hb2 hb3) _ _ _ _ _ _, hu.go ⟨by rw [putW_size]; exact Nat.le_refl _, fun b _ h => ?_⟩, putB (hbW.drew.trans ((hb2.mono (fold_le hsW)).trans (hb3.mono (by omega)))) (Nat.le_refl _) _ _ _ _ _ _⟩
  rw [hd] at h
  rcases h with (⟨h, hl⟩ | h) | h
  · exact ⟨.inl h, putW_other _ _ _ _ _ _ _ _ (by omega)⟩
  · exact ⟨.inr (by omega), putW_other _ _ _ _ _ _ _ _ (by omega)⟩
  · exact ⟨.inr (by omega), putW_other _ _ _ _ _ _ _ _ (by omega)⟩
set_option maxHeartbeats 4000000 in
theorem refFold_any (k o : Nat) (hko : (k = 4 ∧ o = 2) ∨ (k = 5 ∧ o = 1)) : ∀ (l : List Rx) (ok : Nat → Prop) (al : Option Addr) (cap : Nat) (w : World), l.length < 2199023255552 → l.length ≤ cap → RowAt ok w al l →
    Calls Try.prog 18 #[.int .u8 k, .slice al l.length cap] w (RePost ok (foldR k o l) w) := by
  intro l
  induction l with
  | nil =>
    intro ok al cap w _ _ _
    have KB := Lib.hid fun W => bare_any o W (by omega)
    have h1 : foldR k o [] = .node o Ws.nil [] := rfl
    rw [h1]
    rcases hko with ⟨rfl, rfl⟩ | ⟨rfl, rfl⟩
    all_goals
      go_enter Try.func18, Try.ntmps18
      go_wp2_with fail
      refine (KB.out _).mono ?_
      rintro e w1 ⟨v, rfl, hv, hb1⟩
      obtain ⟨x0, x1, x2, x3, x4, bl, n', cp, rfl⟩ := cells_re hv
      obtain ⟨hn, h1, h2, h3⟩ := pass_re hv hb1
      obtain ⟨g0, g1, g2, g3, g4, g5, p0, p1, p2, p3, p4, p5⟩ := cellsR hn
      unfold putW at h1 h2 h3
      have H1 := Lib.hid h1
      have H2 := Lib.hid h2
      have H3 := Lib.hid h3
      clear hv hb1 hn h1 h2 h3
      go_wp2
      exact ret_re H1.out Try.results18 rfl rfl ⟨_, rfl, leaf_any _ H2.out, H3.out⟩
  | cons r rs ih =>
    intro ok al cap w hlen hcap hR
    obtain ⟨b, off, hab, hblt, hbok, hnode⟩ : ∃ b off, al = some ⟨b, off, none⟩ ∧ b < w.heap.size ∧ ok b ∧ NodesAt ok w b off (r :: rs) := by
      rcases hR with h | h
      · cases h
      · exact h
    subst hab
    have hk256 : k < 256 := by omega
    have hk0 : NodeAt ok w b off r := by unfold NodesAt at hnode; exact hnode.1
    have hrs0 := nodes_tail hnode
    obtain ⟨k', ⟨ta, tb, tc, td⟩, ks'⟩ := r
    obtain ⟨al', cap', ⟨c0, c1, c2, c3, c4, c5⟩, hre⟩ := hk0.read
    simp only at c0 c1 c2 c3 c4 c5
    have HRE := Lib.hid hre
    clear hre hk0 hnode hR
    by_cases hrs : rs = []
    · subst hrs
      rw [show foldR k o [Rx.node k' ⟨ta, tb, tc, td⟩ ks'] = Rx.node k' ⟨ta, tb, tc, td⟩ ks' from rfl, show [Rx.node k' ⟨ta, tb, tc, td⟩ ks'].length = 1 from rfl]
      clear hrs0 ih
      go_enter Try.func18, Try.ntmps18
      go_wp2
      refine ret_re (blk_new w _) Try.results18 rfl rfl ⟨_, rfl, ?_, (Below.refl _ w).alloc (Nat.le_refl _) _⟩
      exact (HRE.out.below ((Below.refl _ w).alloc (Nat.le_refl _) _)).imp fun _ _ h => .inl h
    · have hpos : 0 < rs.length := List.length_pos_iff.2 hrs
      rw [foldR_cons k o _ hrs]
      have hrow : RowAt ok w (some ⟨b, off + 6, none⟩) rs := .inr ⟨b, off + 6, rfl, hblt, hbok, hrs0⟩
      obtain ⟨n, hn⟩ : ∃ n, n = (Rx.node k' ⟨ta, tb, tc, td⟩ ks' :: rs).length := ⟨_, rfl⟩
      rw [← hn] at hlen hcap ⊢
      simp at hn
      have hrl : rs.length = n - 1 := by omega
      have hc1 : rs.length ≤ cap - 1 := by omega
      have KF := Lib.hid fun W (h : Below w.heap.size w W) => ih (fun b => ok b ∧ b < w.heap.size) (some ⟨b, off + 6, none⟩) (cap - 1) W (by omega) hc1 ((hrow.imp fun b hb h => ⟨h, hb⟩ : RowAt (fun b => ok b ∧ b < w.heap.size) w _ rs).below h)
      have KT := Lib.hid fun (W : World) (ok' : Nat → Prop) (u : Value) (h : ReAt ok' W _ (Rx.node k' ⟨ta, tb, tc, td⟩ ks')) (h' : ReAt ok' W u (foldR k o rs)) => two_any k _ _ (.agg #[.int .u8 k', .int .u64 ta, .int .u64 tb, .int .u64 tc, .int .u64 td, .slice al' ks'.length cap']) u W hk256 h h'
      rw [hrl] at KF
      have q0 : ((n : Int) == 0) = false := by simp; omega
      have q1 : ((n : Int) == 1) = false := by simp; omega
      have q2 : (0 : Int) < (n : Int) := by omega
      have q3 : (1 : Int) ≤ (n : Int) := by omega
      have q4 : 1 ≤ n := by omega
      have q5 : 0 < n := by omega
      have q7 : ¬ cap = 1 := by omega
      generalize foldR k o rs = F at *
      clear ih hrow hrs0 hn hrl hc1 hrs hko
      have hnb := blk_new w nilBlk
      have hbW := (Below.refl _ w).alloc (Nat.le_refl _) nilBlk
      have hsW : (w.alloc nilBlk).heap.size = w.heap.size + 1 := by simp
      go_enter Try.func18, Try.ntmps18
      go_wp2_with fail
      change Code.wp _ _ _ _ (w.alloc nilBlk)
      generalize w.alloc nilBlk = W at *
      have c0' := hbW.cell (p := ⟨b, off, none⟩) hblt
      have c1' := hbW.cell (p := ⟨b, off + 1, none⟩) hblt
      have c2' := hbW.cell (p := ⟨b, off + 2, none⟩) hblt
      have c3' := hbW.cell (p := ⟨b, off + 3, none⟩) hblt
      have c4' := hbW.cell (p := ⟨b, off + 4, none⟩) hblt
      have c5' := hbW.cell (p := ⟨b, off + 5, none⟩) hblt
      rw [c0] at c0'
      rw [c1] at c1'
      rw [c2] at c2'
      rw [c3] at c3'
      rw [c4] at c4'
      rw [c5] at c5'
      clear c0 c1 c2 c3 c4 c5
      have HNB := Lib.hid hnb
      clear hnb
      have HC := Lib.hid (⟨c0', c1', c2', c3', c4', c5'⟩ : FoldC W b off (.int .u8 k') (.int .u64 ta) (.int .u64 tb) (.int .u64 tc) (.int .u64 td) (.slice al' ks'.length cap'))
      go_region_with (first
        | (go_at_call 18; (with_reducible refine (KF.out _ hbW.drew).mono ?_); (rintro e w' ⟨u, rfl, hu, hb2⟩); (obtain ⟨z0, z1, z2, z3, z4, zl, zn, zc, rfl⟩ := cells_re hu); (obtain ⟨d0, d1, d2, d3, d4, d5⟩ := foldC_go HC.out hblt ((Below.refl _ _).drew.trans (hb2.mono (fold_le hsW)))))
        | (go_at_call 33; (with_reducible refine (KT.out _ (fun b => (ok b ∧ b < w.heap.size) ∨ W.drew.heap.size ≤ b) _ ?_ ?_).mono ?_); (exact HRE.out.go (fold_kept hbW hsW hb2)); (exact hu); (rintro e w'' ⟨u, rfl, hu2, hb3⟩); (obtain ⟨y0, y1, y2, y3, y4, yl, yn, yc, rfl⟩ := cells_re hu2); (obtain ⟨g0, g1, g2, g3, g4, g5, p0, p1, p2, p3, p4, p5⟩ := cellsR (fold_nil hsW HNB.out hb2 hb3))))
      all_goals
        obtain ⟨s1, s2, s3⟩ := fold_end hbW hsW HNB.out hb2 hb3 hu2
        unfold putW at s1 s2 s3
        have S1 := Lib.hid s1
        have S2 := Lib.hid s2
        have S3 := Lib.hid s3
        clear s1 s2 s3 hu hu2 hb2 hb3 d0 d1 d2 d3 d4 d5 g0 g1 g2 g3 g4 g5 p0 p1 p2 p3 p4 p5 c0' c1' c2' c3' c4' c5'
        go_wp2
        exact ret_re S1.out Try.results18 rfl rfl ⟨_, rfl, S2.out, S3.out⟩
end Go.Proofs.Ytfbhmljajoaniaa
