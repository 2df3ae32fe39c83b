/- show's page: what is written of any expression. -/
import Derived.Test.YtdkdgbiagjflgaaDoorShowQ
namespace Go.Proofs.YtdkdgbiagjflgaaDoor
open Go.RowKit
theorem any45 {a : Ex} {k : Nat} {s : Ws} {ks : List Rx} (h : a.rx = .node k s ks) : anyB [4, 5] k = (a.isSeq || a.isAlt) := by
  cases a <;> simp [Ex.rx] at h <;> obtain ⟨rfl, -⟩ := h <;> rfl
theorem any5 {a : Ex} {k : Nat} {s : Ws} {ks : List Rx} (h : a.rx = .node k s ks) : anyB [5] k = a.isAlt := by
  cases a <;> simp [Ex.rx] at h <;> obtain ⟨rfl, -⟩ := h <;> rfl
theorem br_two {g : Nat} (W : World) (hg : g = W.heap.size) : BytesAt (W.alloc (.cells #[.int .u8 4, .int .u8 5] 5)) (some ⟨g, 0, none⟩) [4, 5] := by
  subst hg
  refine ⟨by decide, .inr ⟨_, 0, rfl, by simp, fun i h => ?_⟩⟩
  match i, h with
  | 0, _ => simp
  | 1, _ => simp
theorem br_one {g : Nat} (W : World) (hg : g = W.heap.size) : BytesAt (W.alloc (.cells #[.int .u8 5] 5)) (some ⟨g, 0, none⟩) [5] := by
  subst hg
  refine ⟨by decide, .inr ⟨_, 0, rfl, by simp, fun i h => ?_⟩⟩
  match i, h with
  | 0, _ => simp
/-- The cells of a node that lies below B. -/
theorem cells_fr {B b' off : Nat} {w W : World} {k : Nat} {ta tb tc td : Nat} {al : Option Addr} {n cap : Nat} (hlo : b' < B) (hf : Below B w W)
    (h : w.cell? ⟨b', off, none⟩ = some (.int .u8 k) ∧ w.cell? ⟨b', off + 1, none⟩ = some (.int .u64 ta) ∧ w.cell? ⟨b', off + 2, none⟩ = some (.int .u64 tb) ∧ w.cell? ⟨b', off + 3, none⟩ = some (.int .u64 tc) ∧ w.cell? ⟨b', off + 4, none⟩ = some (.int .u64 td) ∧ w.cell? ⟨b', off + 5, none⟩ = some (.slice al n cap)) :
    W.cell? ⟨b', off, none⟩ = some (.int .u8 k) ∧ W.cell? ⟨b', off + 1, none⟩ = some (.int .u64 ta) ∧ W.cell? ⟨b', off + 2, none⟩ = some (.int .u64 tb) ∧ W.cell? ⟨b', off + 3, none⟩ = some (.int .u64 tc) ∧ W.cell? ⟨b', off + 4, none⟩ = some (.int .u64 td) ∧ W.cell? ⟨b', off + 5, none⟩ = some (.slice al n cap) := by
  obtain ⟨d0, d1, d2, d3, d4, d5⟩ := h
  have e := fun o => hf.cell (p := ⟨b', o, none⟩) hlo
  exact ⟨by rw [e]; exact d0, by rw [e]; exact d1, by rw [e]; exact d2, by rw [e]; exact d3, by rw [e]; exact d4, by rw [e]; exact d5⟩
set_option maxHeartbeats 2000000 in
theorem node_star {B N : Nat} (hGB : 1 < B) (ih : NodeC B N) (a : Ex) (hN : a.size ≤ N) (v : Value) (w : World) (b : Nat) (pre : List UInt8) (wa : a.Wf) (hT : Tab w) (hB : B ≤ w.heap.size) (hlen : pre.length + (Ex.star a).text.length ≤ 1000000000000) (hP : Pg B b pre w) (hR : ReAt (Lo B) w v (Ex.star a).rx) :
    Calls Tryd.prog 41 #[.pointer (some ⟨b, 0, none⟩), v] w (PgPost B b (pre ++ (Ex.star a).text) w) := by
  obtain ⟨_, _, al, cap, rfl, hcap, hmax, hrow⟩ := hR
  obtain ⟨b', off, hab, hblt, hlo, hnode⟩ := RowAt.kidOk hrow (i := 0) (by simp)
  subst hab
  simp only [List.getElem_cons_zero, Nat.zero_mul, Nat.add_zero] at hnode
  rw [text_star] at hlen ⊢
  have hit : a.item = roundL a.text (a.isSeq || a.isAlt) := rfl
  rw [hit] at hlen ⊢
  obtain ⟨ka, sa, ksa, hrx, -, -⟩ := rx_shape a
  have hnode' := hnode
  rw [hrx] at hnode'
  obtain ⟨ta, tb, tc, td⟩ := sa
  obtain ⟨bl, bcap, ⟨c0, c1, c2, c3, c4, c5⟩, hre⟩ := hnode'.read
  simp only at c0 c1 c2 c3 c4 c5
  rw [← hrx] at hre
  have HP := Lib.hid hP
  have KK := Lib.hid fun (br : List UInt8) (A : Option Addr) (c' : Nat) W (p : List UInt8) (q : Bool) (hq : anyB br ka = q) (hbl : br.length ≤ 1000) (hbr : BytesAt W A br) (hl : p.length + (roundL a.text q).length ≤ 1000000000000) (hf : Fr B b w W) (hp : Pg B b p W) => kid_any hGB ih a hN br A c' _ W b p q ka _ ksa hrx hq hbl hbr wa (hT.fr hGB hf) (hf.size hB) hl hp (hre.fr hB hf)
  have HQ := Lib.hid (any45 hrx)
  generalize (a.isSeq || a.isAlt) = q at *
  have hgb : w.heap.size ≠ b := fun h => by have := HP.out.lt; omega
  generalize a.text = T at *
  clear hrow hnode hnode' hre hrx hit hT hP ih
  simp only [List.length_append, List.length_cons, List.length_nil, Nat.zero_add] at hlen
  simp only [List.length_cons, List.length_nil, Nat.zero_add] at *
  go_enter Tryd.func41, Tryd.ntmps41
  go_wp2_with fail
  have hb0 := fun o o' => ((Below.refl _ w).alloc (Nat.le_refl _) o).alloc (by simp) o'
  refine (KK.out [4, 5] _ 2 _ pre q HQ.out (by decide) (br_two _ (by simp)) (by omega) (fr_below (hb0 _ _) hB) (HP.out.below (hb0 _ _))).mono ?_
  rintro e' w1 ⟨rfl, hp1, hf1⟩
  have P1 := Lib.hid hp1
  have F1 := Lib.hid ((fr_below (b := b) (hb0 _ _) hB).trans hf1)
  clear hp1 hf1 c0 c1 c2 c3 c4 c5 hb0
  go_wp2_with fail
  refine (pgByte B b _ 42 _ P1.out (by simp; omega) (F1.out.size hB)).mono ?_
  rintro e' w2 ⟨rfl, hp2, hf2⟩
  have P2 := Lib.hid hp2
  have F2 := Lib.hid (F1.out.trans hf2)
  clear hp2 hf2
  go_wp2
  go_end0
  exact ⟨rfl, by rw [← List.append_assoc]; exact P2.out, F2.out⟩
set_option maxHeartbeats 4000000 in
theorem node_seq {B N : Nat} (hGB : 1 < B) (ih : NodeC B N) (a c : Ex) (hN : a.size ≤ N) (hN' : c.size ≤ N) (v : Value) (w : World) (b : Nat) (pre : List UInt8) (wa : a.Wf) (wc : c.Wf) (hT : Tab w) (hB : B ≤ w.heap.size) (hlen : pre.length + (Ex.seq a c).text.length ≤ 1000000000000) (hP : Pg B b pre w) (hR : ReAt (Lo B) w v (Ex.seq a c).rx) :
    Calls Tryd.prog 41 #[.pointer (some ⟨b, 0, none⟩), v] w (PgPost B b (pre ++ (Ex.seq a c).text) w) := by
  obtain ⟨_, _, al, cap, rfl, hcap, hmax, hrow⟩ := hR
  obtain ⟨b', off, hab, hblt, hlo, hnode⟩ := RowAt.kidOk hrow (i := 0) (by simp)
  obtain ⟨b'', off'', hab', _, _, hnode2⟩ := RowAt.kidOk hrow (i := 1) (by simp)
  subst hab
  simp at hab'
  obtain ⟨rfl, rfl⟩ := hab'
  simp only [List.getElem_cons_zero, List.getElem_cons_succ, Nat.zero_mul, Nat.add_zero, Nat.one_mul] at hnode hnode2
  rw [text_seq] at hlen ⊢
  have hit : a.item = roundL a.text (a.isSeq || a.isAlt) := rfl
  have hit' : c.part = roundL c.text c.isAlt := rfl
  rw [hit, hit'] at hlen ⊢
  obtain ⟨ka, sa, ksa, hrx, -, -⟩ := rx_shape a
  obtain ⟨kc, sc, ksc, hrxc, -, -⟩ := rx_shape c
  rw [hrx] at hnode
  rw [hrxc] at hnode2
  obtain ⟨ta, tb, tc, td⟩ := sa
  obtain ⟨ta', tb', tc', td'⟩ := sc
  obtain ⟨bl, bcap, ⟨c0, c1, c2, c3, c4, c5⟩, hre⟩ := hnode.read
  obtain ⟨bl', bcap', hcc, hre'⟩ := hnode2.read
  simp only at c0 c1 c2 c3 c4 c5 hcc
  rw [← hrx] at hre
  rw [← hrxc] at hre'
  have HP := Lib.hid hP
  have KK := Lib.hid fun (br : List UInt8) (A : Option Addr) (c' : Nat) W (p : List UInt8) (q : Bool) (hq : anyB br ka = q) (hbl : br.length ≤ 1000) (hbr : BytesAt W A br) (hl : p.length + (roundL a.text q).length ≤ 1000000000000) (hf : Fr B b w W) (hp : Pg B b p W) => kid_any hGB ih a hN br A c' _ W b p q ka _ ksa hrx hq hbl hbr wa (hT.fr hGB hf) (hf.size hB) hl hp (hre.fr hB hf)
  have KC := Lib.hid fun (br : List UInt8) (A : Option Addr) (c' : Nat) W (p : List UInt8) (q : Bool) (hq : anyB br kc = q) (hbl : br.length ≤ 1000) (hbr : BytesAt W A br) (hl : p.length + (roundL c.text q).length ≤ 1000000000000) (hf : Fr B b w W) (hp : Pg B b p W) => kid_any hGB ih c hN' br A c' _ W b p q kc _ ksc hrxc hq hbl hbr wc (hT.fr hGB hf) (hf.size hB) hl hp (hre'.fr hB hf)
  have HC := Lib.hid fun W (hf : Fr B b w W) => cells_fr hlo hf.1 hcc
  have HQ := Lib.hid (any45 hrx)
  have HQ' := Lib.hid (any5 hrxc)
  generalize (a.isSeq || a.isAlt) = q at *
  generalize c.isAlt = q' at *
  have hgb : w.heap.size ≠ b := fun h => by have := HP.out.lt; omega
  generalize a.text = T at *
  generalize c.text = U at *
  clear hrow hnode hnode2 hre hre' hrx hrxc hit hit' hT hP ih hcc
  simp only [List.length_append] at hlen
  simp only [List.length_cons, List.length_nil, Nat.zero_add] at *
  go_enter Tryd.func41, Tryd.ntmps41
  go_wp2_with fail
  have hb0 := fun o o' => ((Below.refl _ w).alloc (Nat.le_refl _) o).alloc (by simp) o'
  refine (KK.out [4, 5] _ 2 _ pre q HQ.out (by decide) (br_two _ (by simp)) (by omega) (fr_below (hb0 _ _) hB) (HP.out.below (hb0 _ _))).mono ?_
  rintro e' w1 ⟨rfl, hp1, hf1⟩
  have hx := hf1.box ((Below.heap_alloc _ _ _ (by simp)).trans (blk_new w _)) hgb
  have P1 := Lib.hid hp1
  have F1 := Lib.hid ((fr_below (b := b) (hb0 _ _) hB).trans hf1)
  clear hp1 hf1 c0 c1 c2 c3 c4 c5 hb0
  obtain ⟨x0, x1, x2, x3, x4, x5, -⟩ := cellsR hx
  obtain ⟨c0, c1, c2, c3, c4, c5⟩ := HC.out _ F1.out
  have hw1 := hx
  go_wp2_with fail
  have hb1 := fun o => (Below.refl _ w1).alloc (Nat.le_refl _) o
  refine (KC.out [5] _ 1 _ _ q' HQ'.out (by decide) (br_one _ rfl) (by simp; omega) (F1.out.trans (fr_below (hb1 _) (F1.out.size hB))) (P1.out.below (hb1 _))).mono ?_
  rintro e' w3 ⟨rfl, hp3, hf3⟩
  have P3 := Lib.hid hp3
  have F3 := Lib.hid ((F1.out.trans (fr_below (hb1 _) (F1.out.size hB))).trans hf3)
  clear hp3 hf3 x0 x1 x2 x3 x4 x5 c0 c1 c2 c3 c4 c5 hx
  go_wp2
  go_end0
  exact ⟨rfl, by rw [← List.append_assoc]; exact P3.out, F3.out⟩
set_option maxHeartbeats 4000000 in
theorem node_alt {B N : Nat} (hGB : 1 < B) (ih : NodeC B N) (a c : Ex) (hN : a.size ≤ N) (hN' : c.size ≤ N) (v : Value) (w : World) (b : Nat) (pre : List UInt8) (wa : a.Wf) (wc : c.Wf) (hT : Tab w) (hB : B ≤ w.heap.size) (hlen : pre.length + (Ex.alt a c).text.length ≤ 1000000000000) (hP : Pg B b pre w) (hR : ReAt (Lo B) w v (Ex.alt a c).rx) :
    Calls Tryd.prog 41 #[.pointer (some ⟨b, 0, none⟩), v] w (PgPost B b (pre ++ (Ex.alt a c).text) w) := by
  obtain ⟨_, _, al, cap, rfl, hcap, hmax, hrow⟩ := hR
  obtain ⟨b', off, hab, hblt, hlo, hnode⟩ := RowAt.kidOk hrow (i := 0) (by simp)
  obtain ⟨b'', off'', hab', _, _, hnode2⟩ := RowAt.kidOk hrow (i := 1) (by simp)
  subst hab
  simp at hab'
  obtain ⟨rfl, rfl⟩ := hab'
  simp only [List.getElem_cons_zero, List.getElem_cons_succ, Nat.zero_mul, Nat.add_zero, Nat.one_mul] at hnode hnode2
  rw [text_alt] at hlen ⊢
  have hit : a.part = roundL a.text a.isAlt := rfl
  have hit' : c.text = roundL c.text false := rfl
  rw [hit] at hlen ⊢
  obtain ⟨ka, sa, ksa, hrx, -, -⟩ := rx_shape a
  obtain ⟨kc, sc, ksc, hrxc, -, -⟩ := rx_shape c
  rw [hrx] at hnode
  rw [hrxc] at hnode2
  obtain ⟨ta, tb, tc, td⟩ := sa
  obtain ⟨ta', tb', tc', td'⟩ := sc
  obtain ⟨bl, bcap, ⟨c0, c1, c2, c3, c4, c5⟩, hre⟩ := hnode.read
  obtain ⟨bl', bcap', hcc, hre'⟩ := hnode2.read
  simp only at c0 c1 c2 c3 c4 c5 hcc
  rw [← hrx] at hre
  rw [← hrxc] at hre'
  have HP := Lib.hid hP
  have KK := Lib.hid fun (br : List UInt8) (A : Option Addr) (c' : Nat) W (p : List UInt8) (q : Bool) (hq : anyB br ka = q) (hbl : br.length ≤ 1000) (hbr : BytesAt W A br) (hl : p.length + (roundL a.text q).length ≤ 1000000000000) (hf : Fr B b w W) (hp : Pg B b p W) => kid_any hGB ih a hN br A c' _ W b p q ka _ ksa hrx hq hbl hbr wa (hT.fr hGB hf) (hf.size hB) hl hp (hre.fr hB hf)
  have KC := Lib.hid fun (br : List UInt8) (A : Option Addr) (c' : Nat) W (p : List UInt8) (q : Bool) (hq : anyB br kc = q) (hbl : br.length ≤ 1000) (hbr : BytesAt W A br) (hl : p.length + (roundL c.text q).length ≤ 1000000000000) (hf : Fr B b w W) (hp : Pg B b p W) => kid_any hGB ih c hN' br A c' _ W b p q kc _ ksc hrxc hq hbl hbr wc (hT.fr hGB hf) (hf.size hB) hl hp (hre'.fr hB hf)
  have HC := Lib.hid fun W (hf : Fr B b w W) => cells_fr hlo hf.1 hcc
  have HQ := Lib.hid (any5 hrx)
  generalize a.isAlt = q at *
  have hgb : w.heap.size ≠ b := fun h => by have := HP.out.lt; omega
  generalize a.text = T at *
  generalize c.text = U at *
  clear hrow hnode hnode2 hre hre' hrx hrxc hit hit' hT hP ih hcc
  simp only [List.length_append, List.length_cons] at hlen
  simp only [List.length_cons, List.length_nil, Nat.zero_add] at *
  go_enter Tryd.func41, Tryd.ntmps41
  go_wp2_with fail
  have hb0 := fun o o' => ((Below.refl _ w).alloc (Nat.le_refl _) o).alloc (by simp) o'
  refine (KK.out [5] _ 1 _ pre q HQ.out (by decide) (br_one _ (by simp)) (by omega) (fr_below (hb0 _ _) hB) (HP.out.below (hb0 _ _))).mono ?_
  rintro e' w1 ⟨rfl, hp1, hf1⟩
  have hx := hf1.box ((Below.heap_alloc _ _ _ (by simp)).trans (blk_new w _)) hgb
  have P1 := Lib.hid hp1
  have F1 := Lib.hid ((fr_below (b := b) (hb0 _ _) hB).trans hf1)
  clear hp1 hf1 c0 c1 c2 c3 c4 c5 hb0
  go_wp2_with fail
  refine (pgByte B b _ 124 _ P1.out (by simp; omega) (F1.out.size hB)).mono ?_
  rintro e' w2 ⟨rfl, hp2, hf2⟩
  have P2 := Lib.hid hp2
  have F2 := Lib.hid (F1.out.trans hf2)
  replace hx := hf2.box hx hgb
  clear hp2 hf2
  obtain ⟨x0, x1, x2, x3, x4, x5, -⟩ := cellsR hx
  obtain ⟨c0, c1, c2, c3, c4, c5⟩ := HC.out _ F2.out
  go_wp2_with fail
  refine (KC.out [] none 0 _ _ false rfl (by decide) ⟨by decide, .inl rfl⟩ (by have hU : (roundL U false).length = U.length := rfl; simp only [List.length_append, List.length_cons, List.length_nil]; omega) F2.out P2.out).mono ?_
  rintro e' w3 ⟨rfl, hp3, hf3⟩
  have P3 := Lib.hid hp3
  have F3 := Lib.hid (F2.out.trans hf3)
  clear hp3 hf3 x0 x1 x2 x3 x4 x5 c0 c1 c2 c3 c4 c5 hx
  go_wp2
  go_end0
  refine ⟨rfl, ?_, F3.out⟩
  have e : pre ++ (roundL T q ++ 124 :: U) = pre ++ roundL T q ++ [124] ++ roundL U false := by simp [roundL]
  rw [e]; exact P3.out
theorem node_any {B : Nat} (hGB : 1 < B) (N : Nat) : NodeC B N := by
  induction N with
  | zero =>
    intro e he
    have : 0 < e.size := by cases e <;> simp [Ex.size] <;> omega
    omega
  | succ N ih =>
    intro e he v w b pre we hT hB hlen hP hR
    cases e with
    | empty => exact node_lit 1 _ (.inl ⟨rfl, rfl⟩) v w b pre hB hlen hP hR
    | eps => exact node_lit 2 _ (.inr ⟨rfl, rfl⟩) v w b pre hB hlen hP hR
    | cls s => exact node_cls hGB s we.1 v w b pre hT hB hlen hP hR
    | seq a c =>
      have hz : (Ex.seq a c).size = 1 + a.size + c.size := rfl
      exact node_seq hGB ih a c (by omega) (by omega) v w b pre we.1 we.2 hT hB hlen hP hR
    | alt a c =>
      have hz : (Ex.alt a c).size = 1 + a.size + c.size := rfl
      exact node_alt hGB ih a c (by omega) (by omega) v w b pre we.1 we.2 hT hB hlen hP hR
    | star a =>
      have hz : (Ex.star a).size = 1 + a.size := rfl
      exact node_star hGB ih a (by omega) v w b pre we hT hB hlen hP hR
end Go.Proofs.YtdkdgbiagjflgaaDoor
