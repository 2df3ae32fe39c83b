/- rex.Word. -/
import Derived.Test.YtdkdgbiagjflgaaDoorRexH
import Derived.Test.YtdkdgbiagjflgaaDoorSetC
namespace Go.Proofs.YtdkdgbiagjflgaaDoor
open Go.RowKit
def byteR (c : UInt8) : Rx := ofR (ofN (natsOf [c]))
def wordL (s : ByteArray) : List Rx := s.data.toList.map byteR
def wordInv (s : ByteArray) (w : World) (y : Value) (wr : World) : Prop := ∃ i : Nat, i ≤ s.size ∧ y = .int .i64 i ∧ wr.heap[w.heap.size]? = some nilBlk ∧ Room wr (w.heap.size + 1) (s.size * 6) ∧
  NodesAt (New (w.heap.size + 2)) wr (w.heap.size + 1) 0 ((wordL s).take i) ∧ Below w.heap.size w wr
theorem pass2 {n0 : Nat} {w wr w1 : World} {r : Rx} {x0 x1 x2 x3 x4 x5 : Value} (hn : wr.heap[n0]? = some nilBlk) (hb : Below n0 w wr) (hv : ReAt (New wr.heap.size) w1 (.agg #[x0, x1, x2, x3, x4, x5]) r) (hb1 : Below wr.heap.size wr w1) :
    w1.heap[n0]? = some nilBlk ∧ (putW w1 n0 x0 x1 x2 x3 x4 x5).heap[n0]? = some (.cells #[x0, x1, x2, x3, x4, x5] 30) ∧
    ReAt (New n0) (putW w1 n0 x0 x1 x2 x3 x4 x5) (.agg #[x0, x1, x2, x3, x4, x5]) r ∧ Below n0 w (putW w1 n0 x0 x1 x2 x3 x4 x5) := by
  have hlt : n0 < wr.heap.size := (Array.getElem?_eq_some_iff.1 hn).1
  have hn1 : w1.heap[n0]? = some nilBlk := (hb1.block _ hlt).trans hn
  refine ⟨hn1, putR hn1 _ _ _ _ _ _, ?_, putB (hb.trans (hb1.mono (by omega))) (Nat.le_refl _) _ _ _ _ _ _⟩
  refine hv.go ⟨by rw [putW_size]; exact Nat.le_refl _, fun b _ h => ?_⟩
  unfold New at h
  exact ⟨by unfold New; omega, putW_other _ _ _ _ _ _ _ _ (by omega)⟩
theorem leaf_of {ok ok' : Nat → Prop} {w : World} {v : Value} {s : Ws} (h : ReAt ok w v (ofR s)) : ReAt ok' w v (ofR s) := by
  unfold ofR at h ⊢
  split at h <;> (rename_i e; simp only [e]; exact leaf_any w h)
theorem bytes_one (w : World) (c : UInt8) (o : Obj) (ho : o = .cells #[.int .u8 c.toNat] 5) : BytesAt (w.alloc o) (some ⟨w.heap.size, 0, none⟩) [c] := by
  subst ho
  refine ⟨by simp [maxLen], .inr ⟨_, _, rfl, by simp, fun i h => ?_⟩⟩
  obtain rfl : i = 0 := by simpa using h
  rw [Lib.cell_of_heap (blk_new w _)]; rfl
theorem wordL_take (s : ByteArray) (i : Nat) (h : i < s.size) : (wordL s).take (i + 1) = (wordL s).take i ++ [byteR s[i]] := by
  have h' : i < (wordL s).length := by simpa [wordL] using h
  rw [List.take_succ_eq_append_getElem h']
  simp [wordL]; rfl
set_option maxHeartbeats 4000000 in
theorem word_any (s : ByteArray) (w : World) (hs : s.size < 2199023255552) :
    Calls Tryd.prog 19 #[.string s] w (NewPost (foldR 4 2 (wordL s)) w) := by
  have hmk := make_re s.size hs
  have hwl : (wordL s).length = s.size := by simp [wordL]
  have HWL := Lib.hid hwl
  clear hwl
  go_enter Tryd.func19, Tryd.ntmps19
  go_wp2
  go_loopw [10] (fun y wr => wordInv s w y wr) (fun y _ => s.size - (intOf y).toNat)
  case atStart =>
    refine ⟨0, Nat.zero_le _, rfl, ?_, ?_, by simp only [List.take_zero]; unfold NodesAt; trivial, ((Below.refl _ w).alloc (Nat.le_refl _) _).alloc (by simp) _⟩
    · exact (Below.heap_alloc _ _ _ (by simp)).trans (blk_new w _)
    · have := room_made (w.alloc nilBlk) zeroR (s.size * 6)
      simpa [nilBlk] using this
  case round =>
    obtain ⟨i, hi, rfl, hn, hroom, hnodes, hb⟩ := hrel
    have HN := Lib.hid hn
    have HM := Lib.hid hroom
    have HD := Lib.hid hnodes
    clear hn hroom hnodes
    by_cases hlt : i < s.size
    · have htk := wordL_take s i hlt
      have hlen : ((wordL s).take i).length = i := by rw [List.length_take, HWL.out]; omega
      have K1 := Lib.hid fun W (h : BytesAt W (some ⟨wr.heap.size, 0, none⟩) [s[i]]) => setOf_any (some ⟨wr.heap.size, 0, none⟩) [s[i]] 1 W h
      have K2 := Lib.hid fun W => ofX_any (ofN (natsOf [s[i]])) W (ofN_ok _)
      have HB1 := Lib.hid (bytes_one wr s[i] _ rfl)
      have HTK := Lib.hid htk
      have HLEN := Lib.hid hlen
      clear htk hlen
      have hrr := Lib.hid (show byteR s[i] = ofR (ofN (natsOf [s[i]])) from rfl)
      generalize ofN (natsOf [s[i]]) = S at *
      generalize byteR s[i] = R at *
      obtain ⟨sa, sb, sc, sd⟩ := S
      unfold Ws.v at K1 K2
      rw [show [s[i]].length = 1 from rfl] at K1
      go_wp2_with fail
      refine (K1.out _ HB1.out).mono ?_
      rintro e w2 ⟨rfl, hb2⟩
      have hbr : Below wr.heap.size wr w2 := ((Below.refl _ wr).alloc (Nat.le_refl _) _).trans (hb2.mono (by simp))
      clear hb2
      go_wp2_with fail
      refine (K2.out _).mono ?_
      rintro e w3 ⟨v, rfl, hv, hb3⟩
      obtain ⟨x0, x1, x2, x3, x4, bl, n', cp, rfl⟩ := cells_re hv
      have hgk := HM.out.lt
      replace hbr : Below wr.heap.size wr w3 := hbr.trans (hb3.mono hbr.size)
      have hroom : Room w3 (w.heap.size + 1) (s.size * 6) := HM.out.of (hbr.block _ hgk)
      have hnodes : NodesAt (New (w.heap.size + 2)) w3 (w.heap.size + 1) 0 ((wordL s).take i) := NodesAt.below hbr _ hgk HD.out
      have hsz2 := hbr.size
      have hv3 := leaf_of (ok' := New (w.heap.size + 2)) hv
      rw [← hrr.out] at hv3
      have hlen := HLEN.out
      have hpush := nodes_push hroom (by rw [hlen]; omega) (by unfold New; omega) hnodes hv3
      rw [hlen, ← HTK.out] at hpush
      have hput := (put6_at hroom (off := i * 6) (by omega) (.int .u8 x0) (.int .u64 x1) (.int .u64 x2) (.int .u64 x3) (.int .u64 x4) (.slice bl n' cp)).1
      have hbp := put6_below (hb.trans (hbr.mono hb.size)) (g := w.heap.size + 1) (by omega) (i * 6) (.int .u8 x0) (.int .u64 x1) (.int .u64 x2) (.int .u64 x3) (.int .u64 x4) (.slice bl n' cp)
      have h0 := (put6_other w3 (w.heap.size + 1) (i * 6) (.int .u8 x0) (.int .u64 x1) (.int .u64 x2) (.int .u64 x3) (.int .u64 x4) (.slice bl n' cp) (b := w.heap.size) (by omega)).trans ((hbr.block _ (by omega)).trans HN.out)
      obtain ⟨⟨z0, q0⟩, f0⟩ := hroom.cells (i * 6) (by omega)
      obtain ⟨⟨z1, q1⟩, f1⟩ := hroom.cells (i * 6 + 1) (by omega)
      obtain ⟨⟨z2, q2⟩, f2⟩ := hroom.cells (i * 6 + 2) (by omega)
      obtain ⟨⟨z3, q3⟩, f3⟩ := hroom.cells (i * 6 + 3) (by omega)
      obtain ⟨⟨z4, q4⟩, f4⟩ := hroom.cells (i * 6 + 4) (by omega)
      obtain ⟨⟨z5, q5⟩, f5⟩ := hroom.cells (i * 6 + 5) (by omega)
      unfold put6 at hpush hput hbp h0
      have HPUSH := Lib.hid hpush
      have HPUT := Lib.hid hput
      have HBP := Lib.hid hbp
      have H0 := Lib.hid h0
      clear hv hb3 hbr hroom hnodes hv3 hlen hpush hput hbp h0
      go_wp2
      exact ⟨⟨i + 1, by omega, by go_num, H0.out, HPUT.out, HPUSH.out, HBP.out⟩, by simp [intOf]; omega⟩
    · have he : (wordL s).take i = wordL s := List.take_of_length_le (by rw [HWL.out]; omega)
      rw [he] at HD
      have hwl := HWL.out
      have hlt2 : (wordL s).length < 2199023255552 := by rw [hwl]; exact hs
      have hrow : RowAt (fun b => New (w.heap.size + 2) b ∨ b = w.heap.size + 1) wr (some ⟨w.heap.size + 1, 0, none⟩) (wordL s) :=
        .inr ⟨_, _, rfl, HM.out.lt, .inr rfl, NodesAt.go (ok := New (w.heap.size + 2)) ⟨Nat.le_refl _, fun b _ h => ⟨.inl h, rfl⟩⟩ _ rfl HD.out⟩
      have K := Lib.hid (then_any (wordL s) (some ⟨w.heap.size + 1, 0, none⟩) s.size wr hlt2 hrow)
      rw [hwl] at K
      clear hwl hlt2 hrow he
      generalize foldR 4 2 (wordL s) = r at *
      go_wp2_with fail
      refine K.out.mono ?_
      rintro e w1 ⟨v, rfl, hv, hb1⟩
      obtain ⟨x0, x1, x2, x3, x4, bl, n', cp, rfl⟩ := cells_re hv
      obtain ⟨hn, h1, h2, h3⟩ := pass2 HN.out hb hv hb1
      obtain ⟨g0, g1, g2, g3, g4, g5, p0, p1, p2, p3, p4, p5⟩ := cellsR hn
      unfold putW at h1 h2 h3
      have H1 := Lib.hid h1
      have H2 := Lib.hid h2
      have H3 := Lib.hid h3
      clear hv hb1 hn h1 h2 h3
      go_wp2
      exact ret_re H1.out Tryd.results19 rfl rfl ⟨_, rfl, H2.out, H3.out⟩
end Go.Proofs.YtdkdgbiagjflgaaDoor
