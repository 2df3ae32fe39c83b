/- show's page: what is written of a node; what is written of any expression. -/
import Derived.Test.YtdkdgbiagjflgaaDoorShowP
import Derived.Test.YtdkdgbiagjflgaaDoorSetL
import Derived.Deep.RegionWith
namespace Go.Proofs.YtdkdgbiagjflgaaDoor
open Go.RowKit
set_option maxHeartbeats 2000000 in
theorem node_lit {B : Nat} (k : Nat) (t : List UInt8) (hk : (k = 1 ∧ t = [91, 93]) ∨ (k = 2 ∧ t = [40, 41])) (v : Value) (w : World) (b : Nat) (pre : List UInt8) (hB : B ≤ w.heap.size) (hlen : pre.length + t.length ≤ 1000000000000) (hP : Pg B b pre w) (hR : ReAt (Lo B) w v (.node k Ws.nil [])) :
    Calls Tryd.prog 41 #[.pointer (some ⟨b, 0, none⟩), v] w (PgPost B b (pre ++ t) w) := by
  obtain ⟨_, _, al, cap, rfl, hcap, hmax, hrow⟩ := hR
  have HP := Lib.hid hP
  clear hrow hP
  have hb0 : Below w.heap.size w (w.alloc (.cells #[.int .u8 k, .int .u64 0, .int .u64 0, .int .u64 0, .int .u64 0, .slice al 0 cap] 30)) := (Below.refl _ w).alloc (Nat.le_refl _) _
  have F1 := Lib.hid (fr_below (b := b) hb0 hB)
  have P1 := Lib.hid (HP.out.below hb0)
  have KT := Lib.hid (pgText B b pre t _ P1.out hlen (F1.out.size hB))
  clear hb0 hlen
  rcases hk with ⟨rfl, rfl⟩ | ⟨rfl, rfl⟩
  · go_enter Tryd.func41, Tryd.ntmps41
    go_wp2_with fail
    refine KT.out.mono ?_
    rintro e' w2 ⟨⟨n, rfl⟩, hp2, hf2⟩
    have P2 := Lib.hid hp2
    have F2 := Lib.hid (F1.out.trans hf2)
    clear hp2 hf2
    go_wp2
    go_end0
    exact ⟨rfl, P2.out, F2.out⟩
  · go_enter Tryd.func41, Tryd.ntmps41
    go_wp2_with fail
    refine KT.out.mono ?_
    rintro e' w2 ⟨⟨n, rfl⟩, hp2, hf2⟩
    have P2 := Lib.hid hp2
    have F2 := Lib.hid (F1.out.trans hf2)
    clear hp2 hf2
    go_wp2
    go_end0
    exact ⟨rfl, P2.out, F2.out⟩
set_option maxHeartbeats 2000000 in
theorem node_cls {B : Nat} (hGB : 1 < B) (s : Ws) (hs : s.Ok) (v : Value) (w : World) (b : Nat) (pre : List UInt8) (hT : Tab w) (hB : B ≤ w.heap.size) (hlen : pre.length + (textW s).length ≤ 1000000000000) (hP : Pg B b pre w) (hR : ReAt (Lo B) w v (.node 3 s [])) :
    Calls Tryd.prog 41 #[.pointer (some ⟨b, 0, none⟩), v] w (PgPost B b (pre ++ textW s) w) := by
  obtain ⟨_, _, al, cap, rfl, hcap, hmax, hrow⟩ := hR
  have HP := Lib.hid hP
  have KS := Lib.hid fun W (hf : Fr B b w W) => text_any s W hs (hT.fr hGB hf)
  generalize textW s = T at *
  obtain ⟨ta, tb, tc, td⟩ := s
  unfold Ws.v at KS
  simp only at KS
  clear hrow hP hT
  go_enter Tryd.func41, Tryd.ntmps41
  have hb0 : Below w.heap.size w (w.alloc (.cells #[.int .u8 3, .int .u64 ta, .int .u64 tb, .int .u64 tc, .int .u64 td, .slice al 0 cap] 30)).drew := ((Below.refl _ w).alloc (Nat.le_refl _) _).drew
  have F1 := Lib.hid (fr_below (b := b) hb0 hB)
  have P1 := Lib.hid (HP.out.below hb0)
  clear hb0
  go_wp2_with fail
  go_region_with (first
    | (go_at_call 51; (refine (KS.out _ F1.out).mono ?_); (rintro e' w1 ⟨rfl, hb1⟩); (have P2 := Lib.hid (P1.out.below hb1)); (have F2 := Lib.hid (F1.out.trans (fr_below hb1 (F1.out.size hB)))); clear hb1)
    | (go_at_call 50; (refine (pgText B b pre T _ P2.out hlen (F2.out.size hB)).mono ?_); (rintro e' w2 ⟨⟨n, rfl⟩, hp2, hf2⟩); (have P3 := Lib.hid hp2); (have F3 := Lib.hid (F2.out.trans hf2)); clear hp2 hf2)
    | fail)
  all_goals (go_wp2; go_end0; exact ⟨rfl, P3.out, F3.out⟩)
end Go.Proofs.YtdkdgbiagjflgaaDoor
