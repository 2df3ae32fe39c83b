/- quilllaw02.SetTwos, walked. -/
import Derived.Test.YtfjagcfbnnbpeaaDoorSetAw
import Derived.Test.YtfjagcfbnnbpeaaDoorSetBackW
namespace Go.Proofs.YtfjagcfbnnbpeaaDoor
open Go.RowKit
theorem Ws.ext4 {s t : Ws} (h0 : s.a = t.a) (h1 : s.b = t.b) (h2 : s.c = t.c) (h3 : s.d = t.d) : s = t := by
  obtain ⟨a, b, c, d⟩ := s; obtain ⟨a', b', c', d'⟩ := t; simp at *; exact ⟨h0, h1, h2, h3⟩
theorem join_two (s t : Ws) : [s, t].foldl Ws.join Ws.nil = s.join t := by
  apply Ws.ext4 <;> simp [Ws.join, Ws.nil]
theorem and_max {x : Nat} (h : x < 18446744073709551616) : 18446744073709551615 &&& x = x := by
  rw [Nat.and_comm, show (18446744073709551615 : Nat) = 2 ^ 64 - 1 from rfl, Nat.and_two_pow_sub_one_eq_mod, Nat.mod_eq_of_lt h]
theorem meet_two {s : Ws} (hs : s.Ok) (t : Ws) : [s, t].foldl Ws.meet Ws.full = s.meet t := by
  apply Ws.ext4 <;> simp [Ws.meet, Ws.full, and_max hs.1, and_max hs.2.1, and_max hs.2.2.1, and_max hs.2.2.2]
theorem join_comm (s t : Ws) : t.join s = s.join t := by
  apply Ws.ext4 <;> simp [Ws.join, Nat.or_comm]
theorem meet_comm (s t : Ws) : t.meet s = s.meet t := by
  apply Ws.ext4 <;> simp [Ws.meet, Nat.and_comm]
theorem sets_two {W : World} {g : Nat} {s t : Ws} {fz : Nat × Nat} (hs : s.Ok) (ht : t.Ok) (h : W.heap[g]? = some (.cells #[.int .u64 s.a, .int .u64 s.b, .int .u64 s.c, .int .u64 s.d, .int .u64 t.a, .int .u64 t.b, .int .u64 t.c, .int .u64 t.d] 26 fz)) :
    SetsAt W (some ⟨g, 0, none⟩) [s, t] := by
  refine ⟨by simp [maxLen], ?_, .inr ⟨g, 0, rfl, (Array.getElem?_eq_some_iff.1 h).1, ?_⟩⟩
  · intro x hx
    simp at hx
    rcases hx with rfl | rfl
    · exact hs
    · exact ht
  · intro i hi
    match i, hi with
    | 0, _ => refine ⟨?_, ?_, ?_, ?_⟩ <;> (rw [Lib.cell_of_heap h]; rfl)
    | 1, _ => refine ⟨?_, ?_, ?_, ?_⟩ <;> (rw [Lib.cell_of_heap h]; rfl)
theorem block_at {g : Nat} (W : World) (o : Obj) (h : g = W.heap.size) : (W.alloc o).heap[g]? = some o := by rw [h]; exact new_block W o
theorem drew_at {Y : World} {g : Nat} {o : Obj} (h : Y.heap[g]? = some o) : Y.drew.heap[g]? = some o := h
theorem blk_below {Y w' : World} {g : Nat} {o : Obj} (h : Y.heap[g]? = some o) (hb : Below Y.heap.size Y w') : w'.heap[g]? = some o := (hb.block g (Array.getElem?_eq_some_iff.1 h).1).trans h
theorem blk_drew {Y w' : World} {g : Nat} {o : Obj} (h : Y.heap[g]? = some o) (hb : Below Y.drew.heap.size Y.drew w') : w'.heap[g]? = some o := blk_below (Y := Y.drew) h hb
/-- A block with four values. -/
def BoxV (w : World) (g : Nat) (x0 x1 x2 x3 : Value) : Prop := w.heap[g]? = some (.cells #[x0, x1, x2, x3] 26)
theorem BoxV.lt {w : World} {g : Nat} {x0 x1 x2 x3 : Value} (h : BoxV w g x0 x1 x2 x3) : g < w.heap.size := (Array.getElem?_eq_some_iff.1 h).1
theorem BoxV.cells {w : World} {g : Nat} {x0 x1 x2 x3 : Value} (h : BoxV w g x0 x1 x2 x3) : w.cell? ⟨g, 0, none⟩ = some x0 ∧ w.cell? ⟨g, 1, none⟩ = some x1 ∧ w.cell? ⟨g, 2, none⟩ = some x2 ∧ w.cell? ⟨g, 3, none⟩ = some x3 := by
  unfold BoxV at h
  refine ⟨?_, ?_, ?_, ?_⟩ <;> (rw [Lib.cell_of_heap h]; rfl)
theorem BoxV.below {w w' : World} {g B : Nat} {x0 x1 x2 x3 : Value} (h : BoxV w g x0 x1 x2 x3) (hb : Below B w w') (hg : g < B) : BoxV w' g x0 x1 x2 x3 := (hb.block g hg).trans h
theorem BoxV.new (w : World) (x0 x1 x2 x3 : Value) : BoxV (w.alloc (.cells #[x0, x1, x2, x3] 26)) w.heap.size x0 x1 x2 x3 := new_block w _
theorem BoxV.alloc {w : World} {g : Nat} {x0 x1 x2 x3 : Value} (h : BoxV w g x0 x1 x2 x3) (o : Obj) : BoxV (w.alloc o) g x0 x1 x2 x3 := (Below.heap_alloc w o g h.lt).trans h
theorem cmp_range (s t : Ws) : ordW s t = 0 ∨ ordW s t = -1 ∨ ordW s t = 1 := by
  unfold ordW
  repeat' split
  all_goals exact cmpN_cases _ _
set_option maxHeartbeats 8000000 in
set_option maxRecDepth 100000 in
theorem twos_core (va vb vc vd va' vb' vc' vd' : Value) (AJ AM AL : Array Value) (o p : Int) (w : World) (HT : Hid (Tab w))
    (q1 : ∀ w, (Op.equalIn 10000 26 (.agg AJ) (.agg AJ)).run Tryd.prog w = .ok true w) (q2 : ∀ w, (Op.equalIn 10000 26 (.agg AM) (.agg AM)).run Tryd.prog w = .ok true w) (q3 : ∀ w, (Op.equalIn 10000 26 (.agg AL) (.agg AL)).run Tryd.prog w = .ok true w)
    (hpo : -o = p) (hpw : IntKind.i64.wrap p = p)
    (KJ : Hid (∀ W g, W.heap[g]? = some (.cells #[va, vb, vc, vd, va', vb', vc', vd'] 26) → Calls Tryd.prog 15 #[.slice (some ⟨g, 0, none⟩) 2 2] W fun e w' => e = .returned (.agg AJ) ∧ Below W.heap.size W w'))
    (KJ' : Hid (∀ W g, W.heap[g]? = some (.cells #[va', vb', vc', vd', va, vb, vc, vd] 26) → Calls Tryd.prog 15 #[.slice (some ⟨g, 0, none⟩) 2 2] W fun e w' => e = .returned (.agg AJ) ∧ Below W.heap.size W w'))
    (KM : Hid (∀ W g, W.heap[g]? = some (.cells #[va, vb, vc, vd, va', vb', vc', vd'] 26) → Calls Tryd.prog 17 #[.slice (some ⟨g, 0, none⟩) 2 2] W fun e w' => e = .returned (.agg AM) ∧ Below W.heap.size W w'))
    (KM' : Hid (∀ W g, W.heap[g]? = some (.cells #[va', vb', vc', vd', va, vb, vc, vd] 26) → Calls Tryd.prog 17 #[.slice (some ⟨g, 0, none⟩) 2 2] W fun e w' => e = .returned (.agg AM) ∧ Below W.heap.size W w'))
    (KRJ : Hid (∀ W, Calls Tryd.prog 16 #[.agg #[va, vb, vc, vd], .agg #[va', vb', vc', vd']] W fun e w' => e = .returned (.agg AJ) ∧ Below W.heap.size W w'))
    (KRM : Hid (∀ W, Calls Tryd.prog 18 #[.agg #[va, vb, vc, vd], .agg #[va', vb', vc', vd'], .bool true] W fun e w' => e = .returned (.agg AM) ∧ Below W.heap.size W w'))
    (KRL : Hid (∀ W, Calls Tryd.prog 18 #[.agg #[va, vb, vc, vd], .agg #[va', vb', vc', vd'], .bool false] W fun e w' => e = .returned (.agg AL) ∧ Below W.heap.size W w'))
    (KL : Hid (∀ W, Calls Tryd.prog 19 #[.agg #[va, vb, vc, vd], .agg #[va', vb', vc', vd']] W fun e w' => e = .returned (.agg AL) ∧ Below W.heap.size W w'))
    (KO : Hid (∀ W, Calls Tryd.prog 20 #[.agg #[va, vb, vc, vd], .agg #[va', vb', vc', vd']] W fun e w' => e = .returned (.int .i64 o) ∧ Below W.heap.size W w'))
    (KO' : Hid (∀ W, Calls Tryd.prog 20 #[.agg #[va', vb', vc', vd'], .agg #[va, vb, vc, vd]] W fun e w' => e = .returned (.int .i64 p) ∧ Below W.heap.size W w'))
    (KR : Hid (∀ W, Calls Tryd.prog 21 #[.agg #[va, vb, vc, vd], .agg #[va', vb', vc', vd']] W fun e w' => e = .returned (.int .i64 o) ∧ Below W.heap.size W w')) :
    Calls Tryd.prog 4 #[.agg #[va, vb, vc, vd], .agg #[va', vb', vc', vd']] w fun e w' => e = .returned (.bool true) ∧ Below w.heap.size w w' := by
  go_enter Tryd.func4, Tryd.ntmps4
  go_wp2_with fail
  have hB0 : BoxV ((w.alloc (.cells #[va, vb, vc, vd] 26)).alloc (.cells #[va', vb', vc', vd'] 26)) w.heap.size va vb vc vd := (BoxV.new w va vb vc vd).alloc _
  have hB1 : BoxV ((w.alloc (.cells #[va, vb, vc, vd] 26)).alloc (.cells #[va', vb', vc', vd'] 26)) (w.heap.size + 1) va' vb' vc' vd' := by
    have := BoxV.new (w.alloc (.cells #[va, vb, vc, vd] 26)) va' vb' vc' vd'
    simp only [World.size_alloc] at this
    exact this
  have hbw : Below w.heap.size w ((w.alloc (.cells #[va, vb, vc, vd] 26)).alloc (.cells #[va', vb', vc', vd'] 26)) := ((Below.refl _ w).alloc (Nat.le_refl _) _).alloc (by simp) _
  generalize hW : (w.alloc (.cells #[va, vb, vc, vd] 26)).alloc (.cells #[va', vb', vc', vd'] 26) = W at *
  have hTW := HT.out.below hbw HT.out.1
  have HTW := Lib.hid hTW
  have K0 : Hid ((W.drew.cell? ⟨w.heap.size, 0, none⟩ = some va ∧ W.drew.cell? ⟨w.heap.size, 1, none⟩ = some vb ∧ W.drew.cell? ⟨w.heap.size, 2, none⟩ = some vc ∧ W.drew.cell? ⟨w.heap.size, 3, none⟩ = some vd) ∧ (W.drew.cell? ⟨w.heap.size + 1, 0, none⟩ = some va' ∧ W.drew.cell? ⟨w.heap.size + 1, 1, none⟩ = some vb' ∧ W.drew.cell? ⟨w.heap.size + 1, 2, none⟩ = some vc' ∧ W.drew.cell? ⟨w.heap.size + 1, 3, none⟩ = some vd') ∧ Below W.heap.size W W.drew) := Lib.hid ⟨hB0.cells, hB1.cells, (Below.refl _ _).drew⟩
  have KD : Hid (∀ X, ((X.cell? ⟨w.heap.size, 0, none⟩ = some va ∧ X.cell? ⟨w.heap.size, 1, none⟩ = some vb ∧ X.cell? ⟨w.heap.size, 2, none⟩ = some vc ∧ X.cell? ⟨w.heap.size, 3, none⟩ = some vd) ∧ (X.cell? ⟨w.heap.size + 1, 0, none⟩ = some va' ∧ X.cell? ⟨w.heap.size + 1, 1, none⟩ = some vb' ∧ X.cell? ⟨w.heap.size + 1, 2, none⟩ = some vc' ∧ X.cell? ⟨w.heap.size + 1, 3, none⟩ = some vd') ∧ Below W.heap.size W X) → ((X.drew.cell? ⟨w.heap.size, 0, none⟩ = some va ∧ X.drew.cell? ⟨w.heap.size, 1, none⟩ = some vb ∧ X.drew.cell? ⟨w.heap.size, 2, none⟩ = some vc ∧ X.drew.cell? ⟨w.heap.size, 3, none⟩ = some vd) ∧ (X.drew.cell? ⟨w.heap.size + 1, 0, none⟩ = some va' ∧ X.drew.cell? ⟨w.heap.size + 1, 1, none⟩ = some vb' ∧ X.drew.cell? ⟨w.heap.size + 1, 2, none⟩ = some vc' ∧ X.drew.cell? ⟨w.heap.size + 1, 3, none⟩ = some vd') ∧ Below W.heap.size W X.drew)) := Lib.hid fun X h => ⟨h.1, h.2.1, h.2.2.drew⟩
  have KP : Hid (∀ X Y, ((X.cell? ⟨w.heap.size, 0, none⟩ = some va ∧ X.cell? ⟨w.heap.size, 1, none⟩ = some vb ∧ X.cell? ⟨w.heap.size, 2, none⟩ = some vc ∧ X.cell? ⟨w.heap.size, 3, none⟩ = some vd) ∧ (X.cell? ⟨w.heap.size + 1, 0, none⟩ = some va' ∧ X.cell? ⟨w.heap.size + 1, 1, none⟩ = some vb' ∧ X.cell? ⟨w.heap.size + 1, 2, none⟩ = some vc' ∧ X.cell? ⟨w.heap.size + 1, 3, none⟩ = some vd') ∧ Below W.heap.size W X) → Below X.heap.size X Y → ((Y.cell? ⟨w.heap.size, 0, none⟩ = some va ∧ Y.cell? ⟨w.heap.size, 1, none⟩ = some vb ∧ Y.cell? ⟨w.heap.size, 2, none⟩ = some vc ∧ Y.cell? ⟨w.heap.size, 3, none⟩ = some vd) ∧ (Y.cell? ⟨w.heap.size + 1, 0, none⟩ = some va' ∧ Y.cell? ⟨w.heap.size + 1, 1, none⟩ = some vb' ∧ Y.cell? ⟨w.heap.size + 1, 2, none⟩ = some vc' ∧ Y.cell? ⟨w.heap.size + 1, 3, none⟩ = some vd') ∧ Below W.heap.size W Y)) := Lib.hid fun X Y h hb => by
    have h2 := h.2.2.trans (hb.mono h.2.2.size)
    exact ⟨(hB0.below h2 hB0.lt).cells, (hB1.below h2 hB1.lt).cells, h2⟩
  have KA : Hid (∀ X (o : Obj), ((X.cell? ⟨w.heap.size, 0, none⟩ = some va ∧ X.cell? ⟨w.heap.size, 1, none⟩ = some vb ∧ X.cell? ⟨w.heap.size, 2, none⟩ = some vc ∧ X.cell? ⟨w.heap.size, 3, none⟩ = some vd) ∧ (X.cell? ⟨w.heap.size + 1, 0, none⟩ = some va' ∧ X.cell? ⟨w.heap.size + 1, 1, none⟩ = some vb' ∧ X.cell? ⟨w.heap.size + 1, 2, none⟩ = some vc' ∧ X.cell? ⟨w.heap.size + 1, 3, none⟩ = some vd') ∧ Below W.heap.size W X) → (((X.alloc o).cell? ⟨w.heap.size, 0, none⟩ = some va ∧ (X.alloc o).cell? ⟨w.heap.size, 1, none⟩ = some vb ∧ (X.alloc o).cell? ⟨w.heap.size, 2, none⟩ = some vc ∧ (X.alloc o).cell? ⟨w.heap.size, 3, none⟩ = some vd) ∧ ((X.alloc o).cell? ⟨w.heap.size + 1, 0, none⟩ = some va' ∧ (X.alloc o).cell? ⟨w.heap.size + 1, 1, none⟩ = some vb' ∧ (X.alloc o).cell? ⟨w.heap.size + 1, 2, none⟩ = some vc' ∧ (X.alloc o).cell? ⟨w.heap.size + 1, 3, none⟩ = some vd') ∧ Below W.heap.size W (X.alloc o))) := Lib.hid fun X o h => KP.out X _ h ((Below.refl _ X).alloc (Nat.le_refl _) o)
  clear hW hTW hB0 hB1
  go_region_held3 (fun x => (x.cell? ⟨w.heap.size, 0, none⟩ = some va ∧ x.cell? ⟨w.heap.size, 1, none⟩ = some vb ∧ x.cell? ⟨w.heap.size, 2, none⟩ = some vc ∧ x.cell? ⟨w.heap.size, 3, none⟩ = some vd) ∧ (x.cell? ⟨w.heap.size + 1, 0, none⟩ = some va' ∧ x.cell? ⟨w.heap.size + 1, 1, none⟩ = some vb' ∧ x.cell? ⟨w.heap.size + 1, 2, none⟩ = some vc' ∧ x.cell? ⟨w.heap.size + 1, 3, none⟩ = some vd') ∧ Below W.heap.size W x) (first | assumption | exact K0.out | exact KD.out _ (by assumption) | exact KA.out _ _ (by assumption) | exact KP.out _ _ (by assumption) (by assumption))
    (first
      | (go_at_call 15; (with_reducible refine (KJ.out _ _ ?_).mono ?_); (focus (first | ((with_reducible refine block_at _ _ ?_); all_goals (simp; done)) | ((with_reducible refine (Below.heap_alloc _ _ _ ?_).trans (block_at _ _ ?_)); all_goals (simp; done)) | ((with_reducible refine drew_at (block_at _ _ ?_)); all_goals (simp; done)) | ((with_reducible refine drew_at ((Below.heap_alloc _ _ _ ?_).trans (block_at _ _ ?_))); all_goals (simp; done)) | ((with_reducible refine blk_drew (block_at _ _ ?_) hbb); all_goals (simp; done)) | ((with_reducible refine blk_drew ((Below.heap_alloc _ _ _ ?_).trans (block_at _ _ ?_)) hbb); all_goals (simp; done)) | ((with_reducible refine blk_below (block_at _ _ ?_) hbb); all_goals (simp; done)) | ((with_reducible refine blk_below ((Below.heap_alloc _ _ _ ?_).trans (block_at _ _ ?_)) hbb); all_goals (simp; done)))); rintro e w' ⟨rfl, hbb⟩)
      | (go_at_call 16; (with_reducible refine (KRJ.out _).mono ?_); rintro e w' ⟨rfl, hbb⟩)
      | (go_at_call 17; (with_reducible refine (KM.out _ _ ?_).mono ?_); (focus (first | ((with_reducible refine block_at _ _ ?_); all_goals (simp; done)) | ((with_reducible refine (Below.heap_alloc _ _ _ ?_).trans (block_at _ _ ?_)); all_goals (simp; done)) | ((with_reducible refine drew_at (block_at _ _ ?_)); all_goals (simp; done)) | ((with_reducible refine drew_at ((Below.heap_alloc _ _ _ ?_).trans (block_at _ _ ?_))); all_goals (simp; done)) | ((with_reducible refine blk_drew (block_at _ _ ?_) hbb); all_goals (simp; done)) | ((with_reducible refine blk_drew ((Below.heap_alloc _ _ _ ?_).trans (block_at _ _ ?_)) hbb); all_goals (simp; done)) | ((with_reducible refine blk_below (block_at _ _ ?_) hbb); all_goals (simp; done)) | ((with_reducible refine blk_below ((Below.heap_alloc _ _ _ ?_).trans (block_at _ _ ?_)) hbb); all_goals (simp; done)))); rintro e w' ⟨rfl, hbb⟩)
      | (go_at_call 18; (with_reducible refine (KRM.out _).mono ?_); rintro e w' ⟨rfl, hbb⟩)
      | (go_at_call 18; (with_reducible refine (KRL.out _).mono ?_); rintro e w' ⟨rfl, hbb⟩)
      | (go_at_call 19; (with_reducible refine (KL.out _).mono ?_); rintro e w' ⟨rfl, hbb⟩))
  clear q3 KRJ KRM KRL KL KA K0
  have hS2 := ‹_ ∧ _ ∧ Below W.heap.size W _›
  have K0 := Lib.hid (KD.out _ hS2)
  have KA : Hid (∀ X (o : Obj), ((X.cell? ⟨w.heap.size, 0, none⟩ = some va ∧ X.cell? ⟨w.heap.size, 1, none⟩ = some vb ∧ X.cell? ⟨w.heap.size, 2, none⟩ = some vc ∧ X.cell? ⟨w.heap.size, 3, none⟩ = some vd) ∧ (X.cell? ⟨w.heap.size + 1, 0, none⟩ = some va' ∧ X.cell? ⟨w.heap.size + 1, 1, none⟩ = some vb' ∧ X.cell? ⟨w.heap.size + 1, 2, none⟩ = some vc' ∧ X.cell? ⟨w.heap.size + 1, 3, none⟩ = some vd') ∧ Below W.heap.size W X) → (((X.alloc o).cell? ⟨w.heap.size, 0, none⟩ = some va ∧ (X.alloc o).cell? ⟨w.heap.size, 1, none⟩ = some vb ∧ (X.alloc o).cell? ⟨w.heap.size, 2, none⟩ = some vc ∧ (X.alloc o).cell? ⟨w.heap.size, 3, none⟩ = some vd) ∧ ((X.alloc o).cell? ⟨w.heap.size + 1, 0, none⟩ = some va' ∧ (X.alloc o).cell? ⟨w.heap.size + 1, 1, none⟩ = some vb' ∧ (X.alloc o).cell? ⟨w.heap.size + 1, 2, none⟩ = some vc' ∧ (X.alloc o).cell? ⟨w.heap.size + 1, 3, none⟩ = some vd') ∧ Below W.heap.size W (X.alloc o))) := Lib.hid fun X o h => KP.out X _ h ((Below.refl _ X).alloc (Nat.le_refl _) o)
  go_wp2_with fail
  go_region_held3 (fun x => (x.cell? ⟨w.heap.size, 0, none⟩ = some va ∧ x.cell? ⟨w.heap.size, 1, none⟩ = some vb ∧ x.cell? ⟨w.heap.size, 2, none⟩ = some vc ∧ x.cell? ⟨w.heap.size, 3, none⟩ = some vd) ∧ (x.cell? ⟨w.heap.size + 1, 0, none⟩ = some va' ∧ x.cell? ⟨w.heap.size + 1, 1, none⟩ = some vb' ∧ x.cell? ⟨w.heap.size + 1, 2, none⟩ = some vc' ∧ x.cell? ⟨w.heap.size + 1, 3, none⟩ = some vd') ∧ Below W.heap.size W x) (first | assumption | exact K0.out | exact KD.out _ (by assumption) | exact KA.out _ _ (by assumption) | exact KP.out _ _ (by assumption) (by assumption))
    (first
      | (go_at_call 15; (with_reducible refine (KJ.out _ _ ?_).mono ?_); (focus (first | ((with_reducible refine block_at _ _ ?_); all_goals (simp; done)) | ((with_reducible refine (Below.heap_alloc _ _ _ ?_).trans (block_at _ _ ?_)); all_goals (simp; done)) | ((with_reducible refine drew_at (block_at _ _ ?_)); all_goals (simp; done)) | ((with_reducible refine drew_at ((Below.heap_alloc _ _ _ ?_).trans (block_at _ _ ?_))); all_goals (simp; done)) | ((with_reducible refine blk_drew (block_at _ _ ?_) hbb); all_goals (simp; done)) | ((with_reducible refine blk_drew ((Below.heap_alloc _ _ _ ?_).trans (block_at _ _ ?_)) hbb); all_goals (simp; done)) | ((with_reducible refine blk_below (block_at _ _ ?_) hbb); all_goals (simp; done)) | ((with_reducible refine blk_below ((Below.heap_alloc _ _ _ ?_).trans (block_at _ _ ?_)) hbb); all_goals (simp; done)))); rintro e w' ⟨rfl, hbb⟩)
      | (go_at_call 15; (with_reducible refine (KJ'.out _ _ ?_).mono ?_); (focus (first | ((with_reducible refine block_at _ _ ?_); all_goals (simp; done)) | ((with_reducible refine (Below.heap_alloc _ _ _ ?_).trans (block_at _ _ ?_)); all_goals (simp; done)) | ((with_reducible refine drew_at (block_at _ _ ?_)); all_goals (simp; done)) | ((with_reducible refine drew_at ((Below.heap_alloc _ _ _ ?_).trans (block_at _ _ ?_))); all_goals (simp; done)) | ((with_reducible refine blk_drew (block_at _ _ ?_) hbb); all_goals (simp; done)) | ((with_reducible refine blk_drew ((Below.heap_alloc _ _ _ ?_).trans (block_at _ _ ?_)) hbb); all_goals (simp; done)) | ((with_reducible refine blk_below (block_at _ _ ?_) hbb); all_goals (simp; done)) | ((with_reducible refine blk_below ((Below.heap_alloc _ _ _ ?_).trans (block_at _ _ ?_)) hbb); all_goals (simp; done)))); rintro e w' ⟨rfl, hbb⟩)
      | (go_at_call 17; (with_reducible refine (KM.out _ _ ?_).mono ?_); (focus (first | ((with_reducible refine block_at _ _ ?_); all_goals (simp; done)) | ((with_reducible refine (Below.heap_alloc _ _ _ ?_).trans (block_at _ _ ?_)); all_goals (simp; done)) | ((with_reducible refine drew_at (block_at _ _ ?_)); all_goals (simp; done)) | ((with_reducible refine drew_at ((Below.heap_alloc _ _ _ ?_).trans (block_at _ _ ?_))); all_goals (simp; done)) | ((with_reducible refine blk_drew (block_at _ _ ?_) hbb); all_goals (simp; done)) | ((with_reducible refine blk_drew ((Below.heap_alloc _ _ _ ?_).trans (block_at _ _ ?_)) hbb); all_goals (simp; done)) | ((with_reducible refine blk_below (block_at _ _ ?_) hbb); all_goals (simp; done)) | ((with_reducible refine blk_below ((Below.heap_alloc _ _ _ ?_).trans (block_at _ _ ?_)) hbb); all_goals (simp; done)))); rintro e w' ⟨rfl, hbb⟩)
      | (go_at_call 17; (with_reducible refine (KM'.out _ _ ?_).mono ?_); (focus (first | ((with_reducible refine block_at _ _ ?_); all_goals (simp; done)) | ((with_reducible refine (Below.heap_alloc _ _ _ ?_).trans (block_at _ _ ?_)); all_goals (simp; done)) | ((with_reducible refine drew_at (block_at _ _ ?_)); all_goals (simp; done)) | ((with_reducible refine drew_at ((Below.heap_alloc _ _ _ ?_).trans (block_at _ _ ?_))); all_goals (simp; done)) | ((with_reducible refine blk_drew (block_at _ _ ?_) hbb); all_goals (simp; done)) | ((with_reducible refine blk_drew ((Below.heap_alloc _ _ _ ?_).trans (block_at _ _ ?_)) hbb); all_goals (simp; done)) | ((with_reducible refine blk_below (block_at _ _ ?_) hbb); all_goals (simp; done)) | ((with_reducible refine blk_below ((Below.heap_alloc _ _ _ ?_).trans (block_at _ _ ?_)) hbb); all_goals (simp; done)))); rintro e w' ⟨rfl, hbb⟩)
      | (go_at_call 20; (with_reducible refine (KO.out _).mono ?_); rintro e w' ⟨rfl, hbb⟩)
      | (go_at_call 20; (with_reducible refine (KO'.out _).mono ?_); rintro e w' ⟨rfl, hbb⟩)
      | (go_at_call 21; (with_reducible refine (KR.out _).mono ?_); rintro e w' ⟨rfl, hbb⟩)
      | (go_at_call 8; (refine (awake_any _ ?_).mono ?_); (exact HTW.out.below (And.right (And.right (by assumption))) HTW.out.1); rintro e w' ⟨rfl, hbb⟩))
  all_goals
    obtain ⟨-, -, hbx⟩ := ‹_ ∧ _ ∧ Below W.heap.size W _›
    go_wp2
    go_ret
    exact ⟨rfl, hbw.trans (hbx.mono hbw.size)⟩
theorem setTwos_walk (s t : Ws) (w : World) (hs : s.Ok) (ht : t.Ok) (hT : Tab w) :
    Calls Tryd.prog 4 #[s.v, t.v] w fun e w' => e = .returned (.bool true) ∧ Below w.heap.size w w' := by
  have kJ := fun W g (h : W.heap[g]? = some (.cells #[.int .u64 s.a, .int .u64 s.b, .int .u64 s.c, .int .u64 s.d, .int .u64 t.a, .int .u64 t.b, .int .u64 t.c, .int .u64 t.d] 26)) => join_any (some ⟨g, 0, none⟩) [s, t] 2 W (sets_two hs ht h)
  have kJ' := fun W g (h : W.heap[g]? = some (.cells #[.int .u64 t.a, .int .u64 t.b, .int .u64 t.c, .int .u64 t.d, .int .u64 s.a, .int .u64 s.b, .int .u64 s.c, .int .u64 s.d] 26)) => join_any (some ⟨g, 0, none⟩) [t, s] 2 W (sets_two ht hs h)
  have kM := fun W g (h : W.heap[g]? = some (.cells #[.int .u64 s.a, .int .u64 s.b, .int .u64 s.c, .int .u64 s.d, .int .u64 t.a, .int .u64 t.b, .int .u64 t.c, .int .u64 t.d] 26)) => meet_any (some ⟨g, 0, none⟩) [s, t] 2 W (sets_two hs ht h)
  have kM' := fun W g (h : W.heap[g]? = some (.cells #[.int .u64 t.a, .int .u64 t.b, .int .u64 t.c, .int .u64 t.d, .int .u64 s.a, .int .u64 s.b, .int .u64 s.c, .int .u64 s.d] 26)) => meet_any (some ⟨g, 0, none⟩) [t, s] 2 W (sets_two ht hs h)
  have kO' := fun W => order_any t s W
  rw [join_two] at kJ kJ'
  rw [meet_two hs] at kM
  rw [meet_two ht] at kM'
  rw [join_comm] at kJ'
  rw [meet_comm] at kM'
  rw [ordW_neg] at kO'
  have hw : IntKind.i64.wrap (-ordW s t) = -ordW s t := by
    rcases cmp_range s t with h | h | h <;> (rw [h]; rfl)
  exact twos_core _ _ _ _ _ _ _ _ _ _ _ (ordW s t) (-ordW s t) w (Lib.hid hT) (eqW_yes (s.join t)) (eqW_yes (s.meet t)) (eqW_yes (s.less t)) rfl hw (Lib.hid kJ) (Lib.hid kJ') (Lib.hid kM) (Lib.hid kM')
    (Lib.hid fun W => refJoin_any s t W hs ht) (Lib.hid fun W => refMeet_any s t W hs ht) (Lib.hid fun W => refLess_any s t W hs ht) (Lib.hid fun W => less_any s t W hs ht)
    (Lib.hid fun W => order_any s t W) (Lib.hid kO') (Lib.hid fun W => refOrder_any s t W)
end Go.Proofs.YtfjagcfbnnbpeaaDoor
