/- show.Text, show.Lines and show.Fits. -/
import Derived.Test.YtdkdgbiagjflgaaDoorShowR
import Derived.Test.YtdkdgbiagjflgaaDoorShowC
import Derived.Test.YtdkdgbiagjflgaaDoorRexN
namespace Go.Proofs.YtdkdgbiagjflgaaDoor
open Go.RowKit
def WholePost (B b : Nat) (pre T : List UInt8) (q : Bool) (w : World) (e : Ending) (w' : World) : Prop := e = .returned (.tuple #[]) ∧ Pg B b (pre ++ T) w' ∧ Fr B b w w' ∧ (q = false → Below w.heap.size w w')
set_option maxHeartbeats 2000000 in
theorem whole_any {B : Nat} (hGB : 1 < B) (r : Rx) (v : Value) (w : World) (b : Nat) (pre : List UInt8) (hT : Tab w) (hB : B ≤ w.heap.size) (hlen : pre.length ≤ 900000000000) (hP : Pg B b pre w) (hR : ReAt (Lo B) w v r) :
    Calls Tryd.prog 25 #[.pointer (some ⟨b, 0, none⟩), v] w (WholePost B b pre (textX r) (mayR r) w) := by
  have HP := Lib.hid hP
  have hgb : w.heap.size ≠ b := fun h => by have := HP.out.lt; omega
  have hmx : mayR r = true → ∃ e : Ex, e.rx = r ∧ e.Wf ∧ textX r = e.text ∧ e.text.length ≤ 4100000 := fun hm => by
    obtain ⟨e, he, h1, h2⟩ := may_ex hR hm
    subst he
    have := text_length e
    exact ⟨e, rfl, h1, textX_yes hm, by omega⟩
  have KN := Lib.hid fun (hm : mayR r = true) W (hf : Fr B b w W) (hp : Pg B b pre W) => show Calls Tryd.prog 41 #[.pointer (some ⟨b, 0, none⟩), v] W (PgPost B b (pre ++ textX r) W) from by
    obtain ⟨e, rfl, h1, h2, h3⟩ := hmx hm
    rw [h2]
    exact node_any hGB e.size e (Nat.le_refl _) v W b pre h1 (hT.fr hGB hf) (hf.size hB) (by omega) hp (hR.fr hB hf)
  obtain ⟨x0, x1, x2, x3, x4, xl, xn, xc, rfl⟩ := cells_re hR
  have KM := Lib.hid fun W (h : Below w.heap.size w W) (g : Nat) (hg : g = W.heap.size) => mayX [r] (some ⟨g, 0, none⟩) 1 (W.alloc (.cells #[.int .u8 x0, .int .u64 x1, .int .u64 x2, .int .u64 x3, .int .u64 x4, .slice xl xn xc] 30)) (by simp) (by subst hg; exact row_new (hR.below h))
  have HNO := Lib.hid (fun h : mayR r = false => textX_no h)
  have e1 : [r].all mayR = mayR r := by simp
  rw [e1] at KM
  clear hmx hT hP hR e1
  generalize textX r = T at *
  generalize mayR r = q at *
  go_enter Tryd.func25, Tryd.ntmps25
  go_wp2_with fail
  have hb0 := fun o o' => ((Below.refl _ w).alloc (Nat.le_refl _) o).alloc (by simp) o'
  refine (KM.out _ ((Below.refl _ w).alloc (Nat.le_refl _) _) _ (by simp)).mono ?_
  rintro e' w1 ⟨rfl, hb1⟩
  have hx := (hb1.block w.heap.size (by simp; omega)).trans ((Below.heap_alloc _ _ _ (by simp)).trans (blk_new w _))
  have hb := (hb0 _ _).trans (hb1.mono (by simp; omega))
  clear hb0 hb1
  obtain ⟨y0, y1, y2, y3, y4, y5, -⟩ := cellsR hx
  have F1 := Lib.hid (fr_below (b := b) hb hB)
  have P1 := Lib.hid (HP.out.below hb)
  have HB := Lib.hid hb
  clear hb
  cases q with
  | true =>
    go_wp2_with fail
    refine (KN.out trivial _ F1.out P1.out).mono ?_
    rintro e' w2 ⟨rfl, hp2, hf2⟩
    have P2 := Lib.hid hp2
    have F2 := Lib.hid (F1.out.trans hf2)
    clear hp2 hf2 y0 y1 y2 y3 y4 y5 hx
    go_wp2
    go_end0
    exact ⟨rfl, P2.out, F2.out, fun h => by simp at h⟩
  | false =>
    clear y0 y1 y2 y3 y4 y5 hx
    go_wp2
    go_end0
    exact ⟨rfl, by rw [HNO.out trivial, List.append_nil]; exact P1.out, F1.out, fun _ => HB.out⟩
set_option maxHeartbeats 2000000 in
theorem showText : TextC := by
  intro ok r v w hT _ hR
  have hml := textX_length hR
  have hmt := may_text hR
  obtain ⟨x0, x1, x2, x3, x4, xl, xn, xc, rfl⟩ := cells_re hR
  have hre : ∀ o, ReAt (Lo (w.alloc o).heap.size) (w.alloc o) (.agg #[.int .u8 x0, .int .u64 x1, .int .u64 x2, .int .u64 x3, .int .u64 x4, .slice xl xn xc]) r := fun o =>
    (hR.imp (ok' := Lo (w.alloc o).heap.size) fun b hb _ => by show b < (w.alloc o).heap.size; simp; omega).below ((Below.refl _ w).alloc (Nat.le_refl _) o)
  have hTa : ∀ o, Tab (w.alloc o) := fun o => hT.go ((Below.refl _ w).alloc (Nat.le_refl _) o)
  have hG := hT.1
  have K := Lib.hid fun (o : Obj) (g : Nat) (hg : g = (w.alloc o).heap.size) => show Calls Tryd.prog 25 #[.pointer (some ⟨g, 0, none⟩), .agg #[.int .u8 x0, .int .u64 x1, .int .u64 x2, .int .u64 x3, .int .u64 x4, .slice xl xn xc]] ((w.alloc o).alloc (.cells #[.pointer none, .slice none 0 0] 51)) (WholePost (w.alloc o).heap.size g [] (textX r) (mayR r) ((w.alloc o).alloc (.cells #[.pointer none, .slice none 0 0] 51))) from by
    subst hg
    have hb := (Below.refl (w.alloc o).heap.size (w.alloc o)).alloc (Nat.le_refl _) (.cells #[.pointer none, .slice none 0 0] 51)
    exact whole_any (by simp; omega) r _ _ _ [] ((hTa o).go hb) hb.size (by simp) (Lib.IsBuilderF.of (Lib.fresh_isBuilder _ _ _)) ((hre o).below hb)
  clear hR hre hT hTa
  generalize textX r = T at *
  generalize mayR r = q at *
  have HMT := Lib.hid hmt
  clear hmt
  go_enter Tryd.func10, Tryd.ntmps10
  go_wp2_with fail
  refine (K.out _ _ (by simp)).mono ?_
  rintro e' w1 ⟨rfl, hp, hf, hb⟩
  have hbw : Below w.heap.size w w1 := (((Below.refl _ w).alloc (Nat.le_refl _) _).alloc (by simp) _).trans (hf.1.mono (by simp))
  have hs1 : (w.alloc (.cells #[.int .u8 x0, .int .u64 x1, .int .u64 x2, .int .u64 x3, .int .u64 x4, .slice xl xn xc] 30)).heap.size ≤ w1.heap.size := Nat.le_trans (by simp) hf.1.size
  have HP := Lib.hid hp
  cases q with
  | true =>
    have hne : T ≠ [] := by have := HMT.out; simpa using this
    have KS := Lib.hid (pg_string_some _ _ _ _ HP.out hne)
    clear hb hp hf HMT HP K
    go_wp2_with fail
    refine KS.out.mono ?_
    rintro e' w2 ⟨rfl, hb2⟩
    have HB := Lib.hid (hbw.trans (hb2.mono (by simp)))
    clear hb2
    go_wp2
    go_ret
    exact ⟨rfl, HB.out⟩
  | false =>
    have hT0 : T = [] := by have := HMT.out; simpa using this
    subst hT0
    have hb' := hb rfl
    have hbk := (hb'.block (w.heap.size + 1) (by simp)).trans (blk_at _ _ (by simp))
    have KS := Lib.hid (pg_string_none _ _ hbk)
    clear hb hp hf hb' hbk HP K
    go_wp2_with fail
    refine KS.out.mono ?_
    rintro e' w2 ⟨rfl, hb2⟩
    have HB := Lib.hid (hbw.trans (hb2.mono hbw.size))
    clear hb2
    go_wp2
    go_ret
    exact ⟨rfl, HB.out⟩
end Go.Proofs.YtdkdgbiagjflgaaDoor
