/- rex.Many and rex.Size. -/
import Derived.Test.YtfbhmljajoaniaaRexG
namespace Go.Proofs.Ytfbhmljajoaniaa
open Go.RowKit
/-- The world behind a Star that is made in a result block. -/
def manyW (w1 : World) (g : Nat) (x0 x1 x2 x3 x4 x5 : Value) : World :=
  (putW w1 g (.int .u8 6) (.int .u64 0) (.int .u64 0) (.int .u64 0) (.int .u64 0) (.slice (some ⟨w1.heap.size, 0, none⟩) 1 1)).alloc (.cells #[x0, x1, x2, x3, x4, x5] 30)
theorem many_step {n0 g : Nat} {w w1 : World} {x0 x1 x2 x3 x4 x5 : Value} {r : Rx} (hn0 : n0 ≤ g) (hlt : g < w1.heap.size) (hv : ReAt (Own n0 g) w1 (.agg #[x0, x1, x2, x3, x4, x5]) r) (hn : w1.heap[g]? = some nilBlk) (hb : Below n0 w w1) :
    (manyW w1 g x0 x1 x2 x3 x4 x5).heap[g]? = some (.cells #[.int .u8 6, .int .u64 0, .int .u64 0, .int .u64 0, .int .u64 0, .slice (some ⟨w1.heap.size, 0, none⟩) 1 1] 30) ∧
    ReAt (New n0) (manyW w1 g x0 x1 x2 x3 x4 x5) (.agg #[.int .u8 6, .int .u64 0, .int .u64 0, .int .u64 0, .int .u64 0, .slice (some ⟨w1.heap.size, 0, none⟩) 1 1]) (.node 6 Ws.nil [r]) ∧ Below n0 w (manyW w1 g x0 x1 x2 x3 x4 x5) := by
  have hsz := putW_size w1 g (.int .u8 6) (.int .u64 0) (.int .u64 0) (.int .u64 0) (.int .u64 0) (.slice (some ⟨w1.heap.size, 0, none⟩) 1 1)
  refine ⟨(Below.heap_alloc _ _ _ (by rw [hsz]; exact hlt)).trans (putR hn _ _ _ _ _ _), ⟨by decide, Ws.nil_ok, _, _, rfl, Nat.le_refl _, by simp, row_one (blk_at _ _ hsz.symm) ?_ ?_⟩, (putB hb hn0 _ _ _ _ _ _).alloc (by rw [hsz]; omega) _⟩
  · unfold New; omega
  · refine hv.go ⟨by unfold manyW; rw [World.size_alloc, hsz]; omega, fun b h1 h2 => ⟨?_, (Below.heap_alloc _ _ _ (by rw [hsz]; exact h1)).trans (putW_other _ _ _ _ _ _ _ _ h2.2)⟩⟩
    unfold Own at h2; unfold New; omega
set_option maxHeartbeats 1000000 in
theorem manyX_any {ok : Nat → Prop} (r : Rx) (v : Value) (w : World) (h : ReAt ok w v r) :
    Calls Try.prog 24 #[v] w (NewPost (.node 6 Ws.nil [r]) w) := by
  obtain ⟨y0, y1, y2, y3, y4, yl, yn, yc, rfl⟩ := cells_re h
  have KC := Lib.hid fun W (hb : Below w.heap.size w W) => cloneR r _ W (h.below hb)
  clear h
  go_enter Try.func24, Try.ntmps24
  go_wp2_with fail
  refine (KC.out _ (((Below.refl _ w).alloc (Nat.le_refl _) _).alloc (by simp) _)).mono ?_
  rintro e w1 ⟨v, rfl, hv, hb1⟩
  obtain ⟨x0, x1, x2, x3, x4, bl, n', cp, rfl⟩ := cells_re hv
  have hn : w1.heap[w.heap.size + 1]? = some nilBlk := (hb1.block _ (by simp)).trans (blk_at _ _ (by simp))
  have hs := hb1.size
  simp at hs
  have hbw : Below w.heap.size w w1 := (((Below.refl _ w).alloc (Nat.le_refl _) _).alloc (by simp) _).trans (hb1.mono (by simp; omega))
  obtain ⟨g0, g1, g2, g3, g4, g5, p0, p1, p2, p3, p4, p5⟩ := cellsR hn
  have hlt : w.heap.size + 1 < w1.heap.size := by omega
  obtain ⟨s1, s2, s3⟩ := many_step (g := w.heap.size + 1) (n0 := w.heap.size) (r := r) (by omega) (by omega) (by
    refine hv.imp fun b _ h => ?_
    unfold New at h; simp at h; unfold Own; omega) hn hbw
  unfold manyW putW at s1 s2 s3
  have HS1 := Lib.hid s1
  have HS2 := Lib.hid s2
  have HS3 := Lib.hid s3
  clear hv hn hbw hb1 s1 s2 s3
  go_wp2
  exact ret_re HS1.out Try.results24 rfl rfl ⟨_, rfl, HS2.out, HS3.out⟩
def sizeInv (l : List Rx) (w : World) (x y : Value) (wr : World) : Prop := ∃ i m : Nat, i ≤ l.length ∧ m = l.length + Rx.sizes ((l.take i).flatMap Rx.kids) ∧ x = .int .i64 (wrap64 (m : Int)) ∧ y = .int .i64 i ∧ Below w.heap.size w wr
theorem sizes_kids (l : List Rx) : Rx.sizes l = l.length + Rx.sizes (l.flatMap Rx.kids) := by
  induction l with
  | nil => simp [Rx.sizes]
  | cons r t ih =>
    obtain ⟨k, s, ks⟩ := r
    simp only [Rx.sizes, Rx.size, List.flatMap_cons, sizes_append, List.length_cons, Rx.kids, ih]
    omega
theorem wrap_add (a b : Nat) : wrap64 (wrap64 (a : Int) + wrap64 (b : Int)) = wrap64 ((a + b : Nat) : Int) := by unfold wrap64; omega
set_option maxHeartbeats 4000000 in
theorem size_any {ok : Nat → Prop} (N : Nat) : ∀ (l : List Rx), Rx.sizes l < N → ∀ (al : Option Addr) (cap : Nat) (w : World), l.length < 2199023255552 → RowAt ok w al l →
    Calls Try.prog 13 #[.slice al l.length cap] w fun e w' => e = .returned (.int .i64 (wrap64 (Rx.sizes l : Int))) ∧ Below w.heap.size w w' := by
  induction N with
  | zero => intro l h; omega
  | succ N ih =>
    intro l hN al cap w hlen h
    have HR := Lib.hid h
    have IH := Lib.hid ih
    clear h ih
    go_enter Try.func13, Try.ntmps13
    go_wp2
    go_loopw [3, 10] (fun x y wr => sizeInv l w x y wr) (fun _ y _ => l.length - (intOf y).toNat)
    case atStart => exact ⟨0, l.length, Nat.zero_le _, by simp [Rx.sizes], by rw [IntWalk.wrap64_in _ (by omega)], rfl, Below.refl _ w⟩
    case round =>
      obtain ⟨i, m, hi, hm, rfl, rfl, hb⟩ := hrel
      have HM := Lib.hid hm
      clear hm
      by_cases hlt : i < l.length
      · obtain ⟨b, off, hab, hblt, hnode⟩ := HR.out.kid hlt
        subst hab
        have hkid := NodeAt.below hb _ hblt hnode
        have hkz := size_kid hlt
        have htk : l.take (i + 1) = l.take i ++ [l[i]] := List.take_succ_eq_append_getElem hlt
        have HTK := Lib.hid htk
        clear htk hnode
        generalize l[i] = kid at *
        obtain ⟨k', ⟨ta, tb, tc, td⟩, ks'⟩ := kid
        obtain ⟨al', cap', ⟨c0, c1, c2, c3, c4, c5⟩, hre⟩ := hkid.read
        simp only at c0 c1 c2 c3 c4 c5
        obtain ⟨-, -, al2, cap2, e, -, hl2, hrow2⟩ := hre
        simp at e
        obtain ⟨rfl, rfl⟩ := e
        have hkz' : Rx.sizes ks' < N := by simp [Rx.size] at hkz; omega
        have KC := Lib.hid fun W (hb : Below wr.heap.size wr W) => IH.out ks' hkz' al' cap' W hl2 (hrow2.below hb)
        clear hkid hrow2
        go_wp2_with fail
        refine (KC.out _ ((Below.refl _ wr).alloc (Nat.le_refl _) _)).mono ?_
        rintro e w1 ⟨rfl, hb1⟩
        have hbw : Below w.heap.size w w1 := hb.trans ((((Below.refl _ wr).alloc (Nat.le_refl _) _).trans (hb1.mono (by simp))).mono hb.size)
        have HBW := Lib.hid hbw
        have HW := Lib.hid (wrap_add m (Rx.sizes ks'))
        clear hb1 hbw c0 c1 c2 c3 c4 c5
        generalize wrap64 ((m : Nat) : Int) = x at *
        generalize wrap64 ((Rx.sizes ks' : Nat) : Int) = z at *
        go_wp2
        refine ⟨⟨i + 1, m + Rx.sizes ks', by omega, ?_, ?_, by go_num, HBW.out⟩, by simp [intOf]; omega⟩
        · rw [HTK.out, HM.out, List.flatMap_append, sizes_append]
          simp [Rx.kids]; omega
        · rw [HW.out]
      · have he : l.take i = l := List.take_of_length_le (by omega)
        rw [he] at HM
        have HZ := Lib.hid (sizes_kids l)
        go_wp2
        go_ret
        exact ⟨by rw [HZ.out, ← HM.out]; rfl, hb⟩
theorem sizeX {ok : Nat → Prop} (l : List Rx) (al : Option Addr) (cap : Nat) (w : World) (hl : l.length < 2199023255552) (h : RowAt ok w al l) :
    Calls Try.prog 13 #[.slice al l.length cap] w fun e w' => e = .returned (.int .i64 (wrap64 (Rx.sizes l : Int))) ∧ Below w.heap.size w w' := size_any _ l (Nat.lt_succ_self _) al cap w hl h
end Go.Proofs.Ytfbhmljajoaniaa
