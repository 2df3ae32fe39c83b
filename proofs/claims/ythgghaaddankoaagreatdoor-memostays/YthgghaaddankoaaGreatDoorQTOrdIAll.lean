/- Lemmas of mine, merged: QTOrdI, QTStbA, QTStbB, QTStbC. -/
import Derived.Deep.RegionHeld3
import Derived.Shelf.RegionOpenPlain
import Derived.Test.YthgghaaddankoaaGreatDoorQTSetEAll
/- Lemmas of mine. -/
namespace Go.Proofs.YthgghaaddankoaaGreatDoor
open Go.RowKit
def SortAt (w0 : World) (c : Nat) (al : Option Addr) (n cap g : Nat) (ds : List Nat) (w : World) : Prop := Below w0.heap.size w0 w ∧ BoxL w c al n cap ∧ IntsAt w g ds
theorem SortAt.go {w0 w w' : World} {c : Nat} {al : Option Addr} {n cap g : Nat} {ds : List Nat} (h : SortAt w0 c al n cap g ds w) (hb : Below w.heap.size w w') : SortAt w0 c al n cap g ds w' :=
  ⟨h.1.trans (hb.mono h.1.size), h.2.1.of (hb.block _ h.2.1.lt), h.2.2.of (hb.block _ h.2.2.lt)⟩
theorem SortAt.put {w0 w : World} {c : Nat} {al : Option Addr} {n cap g : Nat} {ds : List Nat} (h : SortAt w0 c al n cap g ds w) (hg : w0.heap.size ≤ g) (hcg : c ≠ g) (j x : Nat) : SortAt w0 c al n cap g (ds.set j x) (w.setCell ⟨g, j, none⟩ (.int .i64 (x : Int))) :=
  ⟨h.1.setCell (p := ⟨g, j, none⟩) hg _, h.2.1.of (Below.heap_setCell _ _ _ _ hcg), h.2.2.set j x⟩
def SortedPost (l : List Rx) (w0 : World) (c : Nat) (al : Option Addr) (cap g : Nat) (e : Ending) (w' : World) : Prop := e = .returned (.tuple #[]) ∧ ∃ ds, Placed l l.length ds ∧ SortAt w0 c al l.length cap g ds w'
open Go.RowKit
def SF (w0 : World) (c : Nat) (al : Option Addr) (n cap g : Nat) (D : Nat → Nat) (w : World) : Prop := SortAt w0 c al n cap g ((List.range n).map D) w
theorem SF.go {w0 w w' : World} {c : Nat} {al : Option Addr} {n cap g : Nat} {D : Nat → Nat} (h : SF w0 c al n cap g D w) (hb : Below w.heap.size w w') : SF w0 c al n cap g D w' := SortAt.go h hb
theorem SF.cell {w0 w : World} {c : Nat} {al : Option Addr} {n cap g : Nat} {D : Nat → Nat} (h : SF w0 c al n cap g D w) (j : Nat) (hj : j < n) : w.cell? ⟨g, j, none⟩ = some (.int .i64 (D j : Int)) := by
  have := h.2.2.cell j (by simpa using hj)
  simpa using this
theorem SF.free {w0 w : World} {c : Nat} {al : Option Addr} {n cap g : Nat} {D : Nat → Nat} (h : SF w0 c al n cap g D w) (j : Nat) : w.frozen? ⟨g, j, none⟩ = false := h.2.2.free j
theorem SF.swap {w0 w : World} {c : Nat} {al : Option Addr} {n cap g : Nat} {D : Nat → Nat} (h : SF w0 c al n cap g D w) (hg : w0.heap.size ≤ g) (hcg : c ≠ g) (i j : Nat) (hij : i ≠ j) : SF w0 c al n cap g (swp D i j) ((w.setCell ⟨g, i, none⟩ (.int .i64 (D j : Int))).setCell ⟨g, j, none⟩ (.int .i64 (D i : Int))) := by
  have := (SortAt.put h hg hcg i (D j)).put hg hcg j (D i)
  rw [map_swp D n i j hij] at this
  exact this
theorem SF.second {w0 w : World} {c : Nat} {al : Option Addr} {n cap g : Nat} {D : Nat → Nat} (h : SF w0 c al n cap g D w) {i j : Nat} (hij : i ≠ j) (hj : j < n) (v : Value) : (w.setCell ⟨g, i, none⟩ v).cell? ⟨g, j, none⟩ = some (.int .i64 (D j : Int)) :=
  (World.cell?_setCell_other _ _ _ _ (by intro e; simp_all)).trans (h.cell j hj)
def DonePost (l : List Rx) (w0 : World) (c : Nat) (al : Option Addr) (cap g : Nat) (D : Nat → Nat) (a b : Nat) (e : Ending) (w' : World) : Prop := e = .returned (.tuple #[]) ∧ ∃ E, SegOn D E a b ∧ SortedOn l E a b ∧ SF w0 c al l.length cap g E w'
def insI (l : List Rx) (w0 : World) (c : Nat) (al : Option Addr) (cap g i a : Nat) (E : Nat → Nat) (vj : Value) (wr : World) : Prop := ∃ j : Nat, vj = .int .i64 j ∧ a ≤ j ∧ j ≤ i ∧ (j = i ∨ ordR (atR l (E i)) (atR l (E j)) < 0) ∧ SF w0 c al l.length cap g (rotD E j i (i + 1)) wr
def outI (l : List Rx) (w0 : World) (c : Nat) (al : Option Addr) (cap g : Nat) (D : Nat → Nat) (a b : Nat) (vi : Value) (wr : World) : Prop := ∃ (i : Nat) (E : Nat → Nat), vi = .int .i64 i ∧ a + 1 ≤ i ∧ i ≤ max (a + 1) b ∧ SegOn D E a (min i b) ∧ SortedOn l E a (min i b) ∧ SF w0 c al l.length cap g E wr
theorem ins_cross {l : List Rx} {D E : Nat → Nat} {a i : Nat} (h : ∀ x, a ≤ x → x < i + 1 → D x = x) (hS : SegOn D E a i) (ha : a ≤ i) : CrossOn l E a i (i + 1) := fun x j h1 h2 h3 h4 _ => by
  obtain rfl : j = i := by omega
  obtain ⟨y, y1, y2, e⟩ := hS.2.1 x h1 h2
  rw [e, hS.1 j (by omega), h y y1 (by omega), h j ha (by omega)]
  exact y2
set_option maxHeartbeats 4000000 in
theorem insert_any {ok : Nat → Prop} (l : List Rx) (al : Option Addr) (cap c g a b : Nat) (D : Nat → Nat) (w0 w : World) (hl : l.length ≤ 1000000) (hR : RowAt ok w0 al l) (hg : w0.heap.size ≤ g) (hcg : c ≠ g) (hb : b ≤ l.length) (ha : a ≤ l.length) (hD : ∀ x, a ≤ x → x < b → D x = x) (hS : SF w0 c al l.length cap g D w) :
    Calls Tryz.prog 172 #[.slice (some ⟨g, 0, none⟩) l.length l.length, .int .i64 a, .int .i64 b, .func (.func 135) #[] #[.pointer (some ⟨c, 0, none⟩)]] w (DonePost l w0 c al cap g D a b) := by
  have KC := Lib.hid fun W (h : Below w0.heap.size w0 W) (hc : BoxL W c al l.length cap) i k (hi : i < l.length) (hk : k < l.length) => cmpAt l al cap c i k W (hR.below h) hc hi hk
  have HS := Lib.hid hS
  have HD := Lib.hid hD
  have ra : IntKind.i64.wrap ((a : Int) + 1) = (a : Int) + 1 := by rw [IntKind.wrap_i64]; omega
  clear hR hS hD
  go_enter Tryz.func172, Tryz.ntmps172
  go_wp2
  go_loopw [8] (fun y wr => outI l w0 c al cap g D a b y wr) (fun y _ => l.length + 1 - (intOf y).toNat)
  case atStart =>
    exact ⟨a + 1, D, by go_num, Nat.le_refl _, by omega, SegOn.refl _ _ _, fun i j h1 h2 h3 => by omega, HS.out⟩
  case round =>
    obtain ⟨i, E, rfl, hi1, hi2, hE, hT, hSr⟩ := hrel
    clear HS
    have HS := Lib.hid hSr
    clear hSr
    by_cases hlt : i < b
    · rw [show min i b = i from by omega] at hE hT
      have HX := Lib.hid (ins_cross (l := l) (D := D) (a := a) (i := i) (fun x h1 h2 => HD.out x h1 (by omega)) hE (by omega))
      have hEi : E i = i := (hE.1 i (by omega)).trans (HD.out i (by omega) hlt)
      have hEy : ∀ y, a ≤ y → y < i → E y < l.length := fun y h1 h2 => by
        obtain ⟨z, z1, z2, e⟩ := hE.2.1 y h1 h2
        rw [e, HD.out z z1 (by omega)]; omega
      have HE := Lib.hid hE
      have HT := Lib.hid hT
      have HEI := Lib.hid hEi
      have HEY := Lib.hid hEy
      clear hE hT hEi hEy
      have q1 : (i : Int) < (b : Int) := by omega
      go_wp2
      go_loopw [9] (fun y wr => insI l w0 c al cap g i a E y wr) (fun y _ => (intOf y).toNat)
      case atStart => exact ⟨i, rfl, by omega, Nat.le_refl _, .inl rfl, by rw [rot_left E i (i + 1) (by omega)]; exact HS.out⟩
      case round =>
        obtain ⟨j, rfl, hja, hji, hjo, hSr⟩ := hrel
        clear HS
        have HS := Lib.hid hSr
        have HO := Lib.hid hjo
        clear hSr hjo
        have hdone : (j = a ∨ ¬ ordR (atR l (E i)) (atR l (E (j - 1))) < 0) → ∀ x, SF w0 c al l.length cap g (rotD E j i (i + 1)) x → outI l w0 c al cap g D a b (.int .i64 (i + 1 : Nat)) x := fun h x hx =>
          ⟨i + 1, _, rfl, by omega, by omega, by rw [show min (i + 1) b = i + 1 from by omega]; exact (HE.out.mono (Nat.le_refl _) (by omega)).trans ((rot_seg E (by omega) (by omega)).mono (by omega) (Nat.le_refl _)), by rw [show min (i + 1) b = i + 1 from by omega]; exact put_down hja hji HT.out HX.out h HO.out, hx⟩
        have HDONE := Lib.hid hdone
        clear hdone
        have wi : IntKind.i64.wrap ((i : Int) + 1) = (i : Int) + 1 := by rw [IntKind.wrap_i64]; omega
        by_cases hj : j = a
        · subst hj
          have d1 : decide ((j : Int) < (j : Int)) = false := by simp
          go_wp2_with fail
          go_quiet (fail)
          have hbx : Below wr.heap.size wr (wr.drewN nq) := below_drewN (Below.refl _ _) nq
          have HF := Lib.hid (HDONE.out (.inl (by simp)) _ (HS.out.go hbx))
          generalize wr.drewN nq = x at *
          clear hbx HS
          go_wp2
          exact ⟨by simpa using HF.out, by simp [intOf]; omega⟩
        · obtain ⟨p, rfl⟩ : ∃ p, j = p + 1 := ⟨j - 1, by omega⟩
          have hpl : p + 1 < l.length := by omega
          have hF1 : rotD E (p + 1) i (i + 1) (p + 1) = i := by rw [rot_a (by omega) (by omega) (Nat.le_refl _) (by omega), show p + 1 + (i - (p + 1)) = i from by omega]; exact HEI.out
          have hF2 : rotD E (p + 1) i (i + 1) p = E p := rot_c (by omega) (by omega) (by omega)
          have c1 := HS.out.cell (p + 1) hpl
          have c2 := HS.out.cell p (by omega)
          rw [hF1] at c1
          rw [hF2] at c2
          have hy := HEY.out p (by omega) (by omega)
          have hput := fun x (hx : SF w0 c al l.length cap g (rotD E (p + 1) i (i + 1)) x) => hx.swap hg hcg (p + 1) p (by omega)
          rw [hF1, hF2, rot_down E p i (by omega)] at hput
          have HPUT := Lib.hid hput
          have hat : E (p + 1 - 1) = E p := by rw [Nat.add_sub_cancel]
          rw [hat, HEI.out] at HDONE
          have hgo : ∀ x, ordR (atR l i) (atR l (E p)) < 0 → SF w0 c al l.length cap g (rotD E p i (i + 1)) x → insI l w0 c al cap g i a E (.int .i64 p) x := fun x h hx => ⟨p, rfl, by omega, by omega, .inr (by rw [HEI.out]; exact h), hx⟩
          have HGO := Lib.hid hgo
          have K1 := Lib.hid fun W (h : Below wr.heap.size wr W) => KC.out W (HS.out.1.trans (h.mono HS.out.1.size)) (HS.out.2.1.of (h.block _ HS.out.2.1.lt)) i (E p) (by omega) hy
          have hglt := HS.out.2.2.lt
          have KEEP := Lib.hid fun x (hx : Below wr.heap.size wr x) => show (x.cell? ⟨g, p + 1, none⟩ = some (.int .i64 i) ∧ x.cell? ⟨g, p, none⟩ = some (.int .i64 (E p))) ∧ Below wr.heap.size wr x from ⟨⟨(hx.cell (p := ⟨g, p + 1, none⟩) hglt).trans c1, (hx.cell (p := ⟨g, p, none⟩) hglt).trans c2⟩, hx⟩
          clear hput hgo hF1 hF2 hat
          generalize hq0 : ordR (atR l i) (atR l (E p)) = q at *
          generalize E p = y at *
          have d1 : decide ((a : Int) < (p : Int) + 1) = true := by simp; omega
          have p0 : (0 : Int) ≤ (p : Int) + 1 := by omega
          have p1 : (0 : Int) ≤ (p : Int) := by omega
          have r1 : IntKind.i64.wrap ((p : Int) + 1) = (p : Int) + 1 := by rw [IntKind.wrap_i64]; omega
          have r2 : IntKind.i64.wrap (p : Int) = (p : Int) := by rw [IntKind.wrap_i64]; omega
          have t2 : ((p : Int)).toNat = p := by omega
          have d2 : (a : Int) < (p : Int) + 1 := by omega
          have d3 : (p : Int) + 1 < (l.length : Int) := by omega
          have d4 : (p : Int) < (l.length : Int) := by omega
          have w1 : IntKind.i64.wrap ((p : Int) + 1 - 1) = (p : Int) := by rw [IntKind.wrap_i64]; omega
          have t1 : ((p : Int) + 1).toNat = p + 1 := by omega
          rw [show ((p + 1 : Nat) : Int) = (p : Int) + 1 from by omega]
          go_wp2_with fail
          go_region_held3 (fun x => (x.cell? ⟨g, p + 1, none⟩ = some (.int .i64 i) ∧ x.cell? ⟨g, p, none⟩ = some (.int .i64 y)) ∧ Below wr.heap.size wr x) (first | assumption | (with_reducible exact KEEP.out _ (Below.refl _ _).drew) | (with_reducible exact KEEP.out _ (by assumption)))
              (first | (go_at_call 135; (with_reducible refine (K1.out _ (And.right (by assumption))).mono ?_); (rintro e x ⟨rfl, hb1⟩); (have hbx : Below wr.heap.size wr x := (Below.refl _ wr).drew.trans hb1)))
          have HS2 := Lib.hid (HS.out.go hbx)
          obtain ⟨⟨c1, c2⟩, -⟩ := KEEP.out _ hbx
          have f1 := HS2.out.free (p + 1)
          have f2 := HS2.out.free p
          clear hb1 hbx HS hq0
          by_cases hq : q < 0
          · have d9 : decide (q < 0) = true := by simpa using hq
            have hS3 := HPUT.out _ HS2.out
            have HS3 := Lib.hid (hS3.go (Below.refl _ _).drew)
            have HG := Lib.hid fun x => HGO.out x hq
            have c3 : (x.setCell ⟨g, p + 1, none⟩ (.int .i64 y)).cell? ⟨g, p, none⟩ = some (.int .i64 y) := (World.cell?_setCell_other _ _ _ _ (by intro e; simp at e)).trans c2
            clear hS3 HPUT HS2 hq
            rw [d9]
            have mixed : Tryz.prog.follows Departure.mixedOrders = true := by kernel_rfl
            go_wp2_with fail
            go_big_region_o
            generalize ((x.setCell ⟨g, p + 1, none⟩ (.int .i64 y)).setCell ⟨g, p, none⟩ (.int .i64 i)).drew = x2 at HS3 ⊢
            clear c1 c2 c3 f1 f2
            go_wp2
            exact ⟨HG.out _ HS3.out, by simp [intOf]⟩
          · have d9 : decide (q < 0) = false := by simpa using hq
            have HF := Lib.hid (HDONE.out (.inr (by omega)) _ HS2.out)
            clear HS2 hq
            clear c1 c2 f1 f2
            rw [d9]
            go_wp2
            exact ⟨by simpa using HF.out, by simp [intOf]; omega⟩
    · have q1 : ¬ (i : Int) < (b : Int) := by omega
      have HF := Lib.hid (show SegOn D E a b from hE.mono (Nat.le_refl _) (by omega))
      have HT := Lib.hid (show SortedOn l E a b from fun x y h1 h2 h3 => hT x y h1 h2 (by omega))
      clear hE hT
      go_wp2
      go_end0
      exact ⟨rfl, E, HF.out, HT.out, HS.out⟩
open Go.RowKit
def swInv (w0 : World) (c : Nat) (al : Option Addr) (n cap g : Nat) (D : Nat → Nat) (a b k : Nat) (vi : Value) (wr : World) : Prop := ∃ i : Nat, vi = .int .i64 i ∧ i ≤ k ∧ SF w0 c al n cap g (swpD D a b i) wr
set_option maxHeartbeats 4000000 in
theorem swaps_any (al : Option Addr) (n cap c g a b k : Nat) (D : Nat → Nat) (v : Value) (w0 w : World) (hn : n ≤ 1000000) (hg : w0.heap.size ≤ g) (hcg : c ≠ g) (hab : a + k ≤ b) (hbn : b + k ≤ n) (hS : SF w0 c al n cap g D w) :
    Calls Tryz.prog 190 #[.slice (some ⟨g, 0, none⟩) n n, .int .i64 a, .int .i64 b, .int .i64 k, v] w fun e w' => e = .returned (.tuple #[]) ∧ SF w0 c al n cap g (swpD D a b k) w' := by
  have HS := Lib.hid hS
  clear hS
  go_enter Tryz.func190, Tryz.ntmps190
  go_wp2
  go_loopw [10] (fun y wr => swInv w0 c al n cap g D a b k y wr) (fun y _ => k - (intOf y).toNat)
  case atStart => exact ⟨0, rfl, Nat.zero_le _, by rw [swpD_zero]; exact HS.out⟩
  case round =>
    obtain ⟨i, rfl, hi, hSr⟩ := hrel
    clear HS
    by_cases hlt : i < k
    · have hv1 : swpD D a b i (a + i) = D (a + i) := by unfold swpD; rw [if_neg (by omega), if_neg (by omega)]
      have hv2 : swpD D a b i (b + i) = D (b + i) := by unfold swpD; rw [if_neg (by omega), if_neg (by omega)]
      have c1 := hSr.cell (a + i) (by omega)
      have c2 := hSr.cell (b + i) (by omega)
      have f1 := hSr.free (a + i)
      have f2 := hSr.free (b + i)
      have c3 := hSr.second (i := a + i) (j := b + i) (by omega) (by omega) (.int .i64 (D (b + i)))
      have hput := hSr.swap hg hcg (a + i) (b + i) (by omega)
      rw [swp_step D a b i (by omega), hv1, hv2] at hput
      have hput := hput.go (Below.refl _ _).drew
      rw [hv1] at c1
      rw [hv2] at c2 c3
      have HP := Lib.hid hput
      clear hput hSr hv1 hv2
      generalize D (a + i) = x at *
      generalize D (b + i) = y at *
      have mixed : Tryz.prog.follows Departure.mixedOrders = true := by kernel_rfl
      have q1 : (i : Int) < (k : Int) := by omega
      have r1 : IntKind.i64.wrap ((a : Int) + (i : Int)) = (a : Int) + (i : Int) := by rw [IntKind.wrap_i64]; omega
      have r2 : IntKind.i64.wrap ((b : Int) + (i : Int)) = (b : Int) + (i : Int) := by rw [IntKind.wrap_i64]; omega
      have r3 : IntKind.i64.wrap ((i : Int) + 1) = (i : Int) + 1 := by rw [IntKind.wrap_i64]; omega
      have s1 : (0 : Int) ≤ (a : Int) + (i : Int) := by omega
      have s2 : (0 : Int) ≤ (b : Int) + (i : Int) := by omega
      have s3 : (a : Int) + (i : Int) < (n : Int) := by omega
      have s4 : (b : Int) + (i : Int) < (n : Int) := by omega
      have t1 : ((a : Int) + (i : Int)).toNat = a + i := by omega
      have t2 : ((b : Int) + (i : Int)).toNat = b + i := by omega
      go_wp2_with fail
      go_big_region_o
      generalize ((wr.setCell ⟨g, a + i, none⟩ (.int .i64 y)).setCell ⟨g, b + i, none⟩ (.int .i64 x)).drew = x2 at HP ⊢
      clear c1 c2 c3 f1 f2
      go_wp2
      exact ⟨⟨i + 1, by go_num, by omega, HP.out⟩, by simp [intOf]; omega⟩
    · obtain rfl : i = k := by omega
      have q1 : ¬ (i : Int) < (i : Int) := by omega
      have HP := Lib.hid hSr
      clear hSr
      go_wp2
      go_end0
      exact ⟨rfl, HP.out⟩
def roInv (w0 : World) (c : Nat) (al : Option Addr) (n cap g : Nat) (D : Nat → Nat) (a m b : Nat) (vi vj : Value) (wr : World) : Prop := ∃ (i j : Nat) (E : Nat → Nat), vi = .int .i64 i ∧ vj = .int .i64 j ∧ 0 < i ∧ 0 < j ∧ i ≤ m ∧ m + j ≤ n ∧ rotD E (m - i) m (m + j) = rotD D a m b ∧ SF w0 c al n cap g E wr
set_option maxHeartbeats 4000000 in
theorem rotate_any (al : Option Addr) (n cap c g a m b : Nat) (D : Nat → Nat) (v : Value) (w0 w : World) (hn : n ≤ 1000000) (hg : w0.heap.size ≤ g) (hcg : c ≠ g) (ham : a < m) (hmb : m < b) (hbn : b ≤ n) (hS : SF w0 c al n cap g D w) :
    Calls Tryz.prog 188 #[.slice (some ⟨g, 0, none⟩) n n, .int .i64 a, .int .i64 m, .int .i64 b, v] w fun e w' => e = .returned (.tuple #[]) ∧ SF w0 c al n cap g (rotD D a m b) w' := by
  have HS := Lib.hid hS
  have K := Lib.hid fun E a b k W (h1 : a + k ≤ b) (h2 : b + k ≤ n) (h : SF w0 c al n cap g E W) => swaps_any al n cap c g a b k E v w0 W hn hg hcg h1 h2 h
  clear hS
  go_enter Tryz.func188, Tryz.ntmps188
  go_wp2
  go_loopw [10, 11] (fun y z wr => roInv w0 c al n cap g D a m b y z wr) (fun y z _ => (intOf y).toNat + (intOf z).toNat)
  case atStart => exact ⟨m - a, b - m, D, by go_num, by go_num, by omega, by omega, by omega, by omega, by rw [show m - (m - a) = a from by omega, show m + (b - m) = b from by omega], HS.out⟩
  case round =>
    obtain ⟨i, j, E, rfl, rfl, hi, hj, him, hjn, hE, hSr⟩ := hrel
    clear HS
    rcases Nat.lt_trichotomy j i with h | h | h
    · have q1 : ¬ (i : Int) = (j : Int) := by omega
      have q2 : (j : Int) < (i : Int) := by omega
      have r1 : IntKind.i64.wrap ((m : Int) - (i : Int)) = ((m - i : Nat) : Int) := by rw [IntKind.wrap_i64]; omega
      have r2 : IntKind.i64.wrap ((i : Int) - (j : Int)) = ((i - j : Nat) : Int) := by rw [IntKind.wrap_i64]; omega
      have KK := Lib.hid (K.out E (m - i) m j wr (by omega) (by omega) hSr)
      have he := rot_great E m i j h him
      rw [hE] at he
      have HE := Lib.hid he
      clear hSr hE he
      go_wp2_with fail
      refine KK.out.mono ?_
      rintro e w1 ⟨rfl, h1⟩
      have H := Lib.hid h1
      clear h1
      go_wp2
      exact ⟨⟨i - j, j, _, rfl, rfl, by omega, hj, by omega, by omega, HE.out, H.out⟩, by simp [intOf]; omega⟩
    · subst h
      have KK := Lib.hid (K.out E (m - j) m j wr (by omega) (by omega) hSr)
      have he := rot_even E m j him
      rw [hE] at he
      have r1 : IntKind.i64.wrap ((m : Int) - (j : Int)) = ((m - j : Nat) : Int) := by rw [IntKind.wrap_i64]; omega
      rw [he] at KK
      clear hSr hE he
      go_wp2_with fail
      refine KK.out.mono ?_
      rintro e w1 ⟨rfl, h1⟩
      have H := Lib.hid h1
      clear h1
      go_wp2
      go_end0
      exact ⟨rfl, H.out⟩
    · have q1 : ¬ (i : Int) = (j : Int) := by omega
      have q2 : ¬ (j : Int) < (i : Int) := by omega
      have r1 : IntKind.i64.wrap ((m : Int) - (i : Int)) = ((m - i : Nat) : Int) := by rw [IntKind.wrap_i64]; omega
      have r2 : IntKind.i64.wrap ((m : Int) + (j : Int)) = (m : Int) + (j : Int) := by rw [IntKind.wrap_i64]; omega
      have r3 : IntKind.i64.wrap ((m : Int) + (j : Int) - (i : Int)) = ((m + j - i : Nat) : Int) := by rw [IntKind.wrap_i64]; omega
      have r4 : IntKind.i64.wrap ((j : Int) - (i : Int)) = ((j - i : Nat) : Int) := by rw [IntKind.wrap_i64]; omega
      have KK := Lib.hid (K.out E (m - i) (m + j - i) i wr (by omega) (by omega) hSr)
      have he := rot_less E m i j h him
      rw [hE] at he
      have HE := Lib.hid he
      clear hSr hE he
      go_wp2_with fail
      refine KK.out.mono ?_
      rintro e w1 ⟨rfl, h1⟩
      have H := Lib.hid h1
      clear h1
      go_wp2
      exact ⟨⟨i, j - i, _, rfl, rfl, hi, by omega, him, by omega, HE.out, H.out⟩, by simp [intOf]; omega⟩
open Go.RowKit
theorem half_i (i j : Nat) : ((i : Int) + (j : Int)) / 2 = (((i + j) / 2 : Nat) : Int) := by omega
def upInv (l : List Rx) (w0 : World) (c : Nat) (al : Option Addr) (cap g a b : Nat) (D : Nat → Nat) (vi vj : Value) (wr : World) : Prop := ∃ i j : Nat, vi = .int .i64 i ∧ vj = .int .i64 j ∧ a + 1 ≤ i ∧ i ≤ j ∧ j ≤ b ∧ (i = a + 1 ∨ ordR (atR l (D (i - 1))) (atR l (D a)) < 0) ∧ (j = b ∨ ¬ ordR (atR l (D j)) (atR l (D a)) < 0) ∧ SF w0 c al l.length cap g D wr
def upShift (w0 : World) (c : Nat) (al : Option Addr) (n cap g a i : Nat) (D : Nat → Nat) (vk : Value) (wr : World) : Prop := ∃ k : Nat, vk = .int .i64 k ∧ a ≤ k ∧ k + 1 ≤ i ∧ SF w0 c al n cap g (rotD D a (a + 1) (k + 1)) wr
def dnInv (l : List Rx) (w0 : World) (c : Nat) (al : Option Addr) (cap g a m : Nat) (D : Nat → Nat) (vi vj : Value) (wr : World) : Prop := ∃ i j : Nat, vi = .int .i64 i ∧ vj = .int .i64 j ∧ a ≤ i ∧ i ≤ j ∧ j ≤ m ∧ (i = a ∨ ¬ ordR (atR l (D m)) (atR l (D (i - 1))) < 0) ∧ (j = m ∨ ordR (atR l (D m)) (atR l (D j)) < 0) ∧ SF w0 c al l.length cap g D wr
def dnShift (w0 : World) (c : Nat) (al : Option Addr) (n cap g i m : Nat) (D : Nat → Nat) (vk : Value) (wr : World) : Prop := ∃ k : Nat, vk = .int .i64 k ∧ i ≤ k ∧ k ≤ m ∧ SF w0 c al n cap g (rotD D k m (m + 1)) wr
def MergePre (l : List Rx) (D : Nat → Nat) (a m b : Nat) : Prop := a < m ∧ m < b ∧ b ≤ l.length ∧ SortedOn l D a m ∧ SortedOn l D m b ∧ CrossOn l D a m b ∧ ∀ x, a ≤ x → x < b → D x < l.length
set_option maxRecDepth 100000 in
set_option maxHeartbeats 4000000 in
theorem merge_one {ok : Nat → Prop} (l : List Rx) (al : Option Addr) (cap c g a b : Nat) (D : Nat → Nat) (w0 w : World) (hl : l.length ≤ 1000000) (hR : RowAt ok w0 al l) (hg : w0.heap.size ≤ g) (hcg : c ≠ g) (m : Nat) (hm : m = a + 1) (hP : MergePre l D a m b) (hS : SF w0 c al l.length cap g D w) :
    Calls Tryz.prog 173 #[.slice (some ⟨g, 0, none⟩) l.length l.length, .int .i64 a, .int .i64 m, .int .i64 b, .func (.func 135) #[] #[.pointer (some ⟨c, 0, none⟩)]] w (DonePost l w0 c al cap g D a b) := by
  have KC := Lib.hid fun W (h : Below w0.heap.size w0 W) (hc : BoxL W c al l.length cap) i k (hi : i < l.length) (hk : k < l.length) => cmpAt l al cap c i k W (hR.below h) hc hi hk
  have HS := Lib.hid hS
  rw [hm] at hP
  obtain ⟨h1, h2, h3, h4, h5, h6, h7⟩ := hP
  have HR := Lib.hid h5
  have HX := Lib.hid h6
  have HV := Lib.hid h7
  have e1 : IntKind.i64.wrap ((m : Int) - (a : Int)) = 1 := by rw [IntKind.wrap_i64]; omega
  have HM := Lib.hid hm
  clear hR hS h4 h5 h6 h7 hm
  go_enter Tryz.func173, Tryz.ntmps173
  go_wp2
  go_loopw [10, 11] (fun y z wr => upInv l w0 c al cap g a b D y z wr) (fun y z _ => (intOf z).toNat - (intOf y).toNat)
  case atStart => exact ⟨a + 1, b, by rw [HM.out], rfl, Nat.le_refl _, by omega, Nat.le_refl _, .inl rfl, .inl rfl, HS.out⟩
  case round =>
    obtain ⟨i, j, rfl, rfl, hi, hij, hj, hA, hB, hSr⟩ := hrel
    clear HS
    have HS := Lib.hid hSr
    have HA := Lib.hid hA
    have HB := Lib.hid hB
    clear hSr hA hB
    by_cases hlt : i < j
    · have q1 : (i : Int) < (j : Int) := by omega
      have hh := half_i i j
      have hh1 : i ≤ (i + j) / 2 := by omega
      have hh2 : (i + j) / 2 < j := by omega
      generalize (i + j) / 2 = h at *
      have c1 := HS.out.cell h (by omega)
      have c2 := HS.out.cell a (by omega)
      have K1 := Lib.hid fun W (q : Below wr.heap.size wr W) => KC.out W (HS.out.1.trans (q.mono HS.out.1.size)) (HS.out.2.1.of (q.block _ HS.out.2.1.lt)) (D h) (D a) (HV.out h (by omega) (by omega)) (HV.out a (by omega) (by omega))
      have hglt := HS.out.2.2.lt
      have KEEP := Lib.hid fun x (hx : Below wr.heap.size wr x) => show (x.cell? ⟨g, h, none⟩ = some (.int .i64 (D h)) ∧ x.cell? ⟨g, a, none⟩ = some (.int .i64 (D a))) ∧ Below wr.heap.size wr x from ⟨⟨(hx.cell (p := ⟨g, h, none⟩) hglt).trans c1, (hx.cell (p := ⟨g, a, none⟩) hglt).trans c2⟩, hx⟩
      have HG1 := Lib.hid fun x (q : ordR (atR l (D h)) (atR l (D a)) < 0) (hx : SF w0 c al l.length cap g D x) => show upInv l w0 c al cap g a b D (.int .i64 ((h + 1 : Nat) : Int)) (.int .i64 j) x from ⟨h + 1, j, rfl, rfl, by omega, by omega, hj, .inr (by rw [Nat.add_sub_cancel]; exact q), HB.out, hx⟩
      have HG2 := Lib.hid fun x (q : ¬ ordR (atR l (D h)) (atR l (D a)) < 0) (hx : SF w0 c al l.length cap g D x) => show upInv l w0 c al cap g a b D (.int .i64 i) (.int .i64 h) x from ⟨i, h, rfl, rfl, by omega, by omega, by omega, HA.out, .inr q, hx⟩
      generalize ordR (atR l (D h)) (atR l (D a)) = q at *
      generalize D h = y at *
      generalize D a = z at *
      have s1 : (h : Int) < (l.length : Int) := by omega
      have s2 : (a : Int) < (l.length : Int) := by omega
      have r3 : IntKind.i64.wrap ((h : Int) + 1) = (h : Int) + 1 := by rw [IntKind.wrap_i64]; omega
      go_wp2_with fail
      go_region_held3 (fun x => (x.cell? ⟨g, h, none⟩ = some (.int .i64 y) ∧ x.cell? ⟨g, a, none⟩ = some (.int .i64 z)) ∧ Below wr.heap.size wr x) (first | assumption | (with_reducible exact KEEP.out _ (Below.refl _ _).drew) | (with_reducible exact KEEP.out _ (by assumption)))
          (first | (go_at_call 135; (with_reducible refine (K1.out _ (And.right (by assumption))).mono ?_); (rintro e x ⟨rfl, hb1⟩); (have hbx : Below wr.heap.size wr x := (Below.refl _ wr).drew.trans hb1)))
      have HS2 := Lib.hid (HS.out.go hbx)
      clear hb1 hbx HS c1 c2 KEEP K1
      by_cases hq : q < 0
      · have d9 : decide (q < 0) = true := by simpa using hq
        have HG := Lib.hid (HG1.out _ hq HS2.out)
        clear hq HG1 HG2 HS2
        rw [d9]
        go_wp2
        exact ⟨by simpa using HG.out, by simp [intOf]; omega⟩
      · have d9 : decide (q < 0) = false := by simpa using hq
        have HG := Lib.hid (HG2.out _ (by omega) HS2.out)
        clear hq HG1 HG2 HS2
        rw [d9]
        go_wp2
        exact ⟨by simpa using HG.out, by simp [intOf]; omega⟩
    · obtain rfl : i = j := by omega
      have q1 : ¬ (i : Int) < (i : Int) := by omega
      have HE := Lib.hid (show SegOn D (rotD D a (a + 1) i) a b from (rot_seg D (by omega) hi).mono (Nat.le_refl _) hj)
      have HT := Lib.hid (show SortedOn l (rotD D a (a + 1) i) a b from put_up hi hj HR.out HX.out HA.out HB.out)
      clear HA HB
      go_wp2
      go_loopw [13] (fun y wr => upShift w0 c al l.length cap g a i D y wr) (fun y _ => i - (intOf y).toNat)
      case atStart => exact ⟨a, rfl, Nat.le_refl _, hi, by rw [rot_right D a (a + 1) (by omega)]; exact HS.out⟩
      case round =>
        obtain ⟨k, rfl, hk, hki, hSr⟩ := hrel
        clear HS
        have r0 : IntKind.i64.wrap ((i : Int) - 1) = (i : Int) - 1 := by rw [IntKind.wrap_i64]; omega
        by_cases hlt : k + 1 < i
        · have q2 : (k : Int) < (i : Int) - 1 := by omega
          have c1 := hSr.cell k (by omega)
          have c2 := hSr.cell (k + 1) (by omega)
          have f1 := hSr.free k
          have f2 := hSr.free (k + 1)
          have c3 := hSr.second (i := k) (j := k + 1) (by omega) (by omega) (.int .i64 (rotD D a (a + 1) (k + 1) (k + 1)))
          have hput := hSr.swap hg hcg k (k + 1) (by omega)
          rw [rot_up D a k hk] at hput
          have HP := Lib.hid (hput.go (Below.refl _ _).drew)
          clear hput hSr
          generalize rotD D a (a + 1) (k + 1) k = x at *
          generalize rotD D a (a + 1) (k + 1) (k + 1) = y at *
          have mixed : Tryz.prog.follows Departure.mixedOrders = true := by kernel_rfl
          have r1 : IntKind.i64.wrap ((k : Int) + 1) = (k : Int) + 1 := by rw [IntKind.wrap_i64]; omega
          have s1 : (0 : Int) ≤ (k : Int) + 1 := by omega
          have s3 : (k : Int) < (l.length : Int) := by omega
          have s4 : (k : Int) + 1 < (l.length : Int) := by omega
          have t1 : ((k : Int) + 1).toNat = k + 1 := by omega
          go_wp2_with fail
          go_big_region_o
          generalize ((wr.setCell ⟨g, k, none⟩ (.int .i64 y)).setCell ⟨g, k + 1, none⟩ (.int .i64 x)).drew = x2 at HP ⊢
          clear c1 c2 c3 f1 f2
          go_wp2
          exact ⟨⟨k + 1, by go_num, by omega, by omega, HP.out⟩, by simp [intOf]; omega⟩
        · have q2 : ¬ (k : Int) < (i : Int) - 1 := by omega
          obtain rfl : i = k + 1 := by omega
          have HP := Lib.hid hSr
          clear hSr
          go_wp2
          go_end0
          exact ⟨rfl, _, HE.out, HT.out, HP.out⟩
set_option maxRecDepth 100000 in
set_option maxHeartbeats 4000000 in
theorem merge_last {ok : Nat → Prop} (l : List Rx) (al : Option Addr) (cap c g a m : Nat) (D : Nat → Nat) (w0 w : World) (hl : l.length ≤ 1000000) (hR : RowAt ok w0 al l) (hg : w0.heap.size ≤ g) (hcg : c ≠ g) (hm : ¬ m = a + 1) (b : Nat) (hbm : b = m + 1) (hP : MergePre l D a m b) (hS : SF w0 c al l.length cap g D w) :
    Calls Tryz.prog 173 #[.slice (some ⟨g, 0, none⟩) l.length l.length, .int .i64 a, .int .i64 m, .int .i64 b, .func (.func 135) #[] #[.pointer (some ⟨c, 0, none⟩)]] w (DonePost l w0 c al cap g D a b) := by
  have KC := Lib.hid fun W (h : Below w0.heap.size w0 W) (hc : BoxL W c al l.length cap) i k (hi : i < l.length) (hk : k < l.length) => cmpAt l al cap c i k W (hR.below h) hc hi hk
  have HS := Lib.hid hS
  rw [hbm] at hP ⊢
  obtain ⟨h1, h2, h3, h4, h5, h6, h7⟩ := hP
  rw [← hbm]
  have HR := Lib.hid h4
  have HX := Lib.hid h6
  have HV := Lib.hid h7
  have e1 : IntKind.i64.wrap ((m : Int) - (a : Int)) = ((m - a : Nat) : Int) := by rw [IntKind.wrap_i64]; omega
  have e2 : (((m - a : Nat) : Int) == 1) = false := by simp; omega
  have e3 : IntKind.i64.wrap ((b : Int) - (m : Int)) = 1 := by rw [IntKind.wrap_i64]; omega
  have HB0 := Lib.hid hbm
  generalize m - a = d at *
  clear hR hS h4 h5 h6 h7 hbm
  go_enter Tryz.func173, Tryz.ntmps173
  go_wp2
  go_loopw [14, 15] (fun y z wr => dnInv l w0 c al cap g a m D y z wr) (fun y z _ => (intOf z).toNat - (intOf y).toNat)
  case atStart => exact ⟨a, m, rfl, rfl, Nat.le_refl _, by omega, Nat.le_refl _, .inl rfl, .inl rfl, HS.out⟩
  case round =>
    obtain ⟨i, j, rfl, rfl, hi, hij, hj, hA, hB, hSr⟩ := hrel
    clear HS
    have HS := Lib.hid hSr
    have HA := Lib.hid hA
    have HB := Lib.hid hB
    clear hSr hA hB
    by_cases hlt : i < j
    · have q1 : (i : Int) < (j : Int) := by omega
      have hh := half_i i j
      have hh1 : i ≤ (i + j) / 2 := by omega
      have hh2 : (i + j) / 2 < j := by omega
      generalize (i + j) / 2 = h at *
      have c1 := HS.out.cell m (by omega)
      have c2 := HS.out.cell h (by omega)
      have K1 := Lib.hid fun W (q : Below wr.heap.size wr W) => KC.out W (HS.out.1.trans (q.mono HS.out.1.size)) (HS.out.2.1.of (q.block _ HS.out.2.1.lt)) (D m) (D h) (HV.out m (by omega) (by omega)) (HV.out h (by omega) (by omega))
      have hglt := HS.out.2.2.lt
      have KEEP := Lib.hid fun x (hx : Below wr.heap.size wr x) => show (x.cell? ⟨g, m, none⟩ = some (.int .i64 (D m)) ∧ x.cell? ⟨g, h, none⟩ = some (.int .i64 (D h))) ∧ Below wr.heap.size wr x from ⟨⟨(hx.cell (p := ⟨g, m, none⟩) hglt).trans c1, (hx.cell (p := ⟨g, h, none⟩) hglt).trans c2⟩, hx⟩
      have HG2 := Lib.hid fun x (q : ¬ ordR (atR l (D m)) (atR l (D h)) < 0) (hx : SF w0 c al l.length cap g D x) => show dnInv l w0 c al cap g a m D (.int .i64 ((h + 1 : Nat) : Int)) (.int .i64 j) x from ⟨h + 1, j, rfl, rfl, by omega, by omega, hj, .inr (by rw [Nat.add_sub_cancel]; exact q), HB.out, hx⟩
      have HG1 := Lib.hid fun x (q : ordR (atR l (D m)) (atR l (D h)) < 0) (hx : SF w0 c al l.length cap g D x) => show dnInv l w0 c al cap g a m D (.int .i64 i) (.int .i64 h) x from ⟨i, h, rfl, rfl, by omega, by omega, by omega, HA.out, .inr q, hx⟩
      generalize ordR (atR l (D m)) (atR l (D h)) = q at *
      generalize D m = y at *
      generalize D h = z at *
      have s1 : (h : Int) < (l.length : Int) := by omega
      have s2 : (m : Int) < (l.length : Int) := by omega
      have r3 : IntKind.i64.wrap ((h : Int) + 1) = (h : Int) + 1 := by rw [IntKind.wrap_i64]; omega
      go_wp2_with fail
      go_region_held3 (fun x => (x.cell? ⟨g, m, none⟩ = some (.int .i64 y) ∧ x.cell? ⟨g, h, none⟩ = some (.int .i64 z)) ∧ Below wr.heap.size wr x) (first | assumption | (with_reducible exact KEEP.out _ (Below.refl _ _).drew) | (with_reducible exact KEEP.out _ (by assumption)))
          (first | (go_at_call 135; (with_reducible refine (K1.out _ (And.right (by assumption))).mono ?_); (rintro e x ⟨rfl, hb1⟩); (have hbx : Below wr.heap.size wr x := (Below.refl _ wr).drew.trans hb1)))
      have HS2 := Lib.hid (HS.out.go hbx)
      clear hb1 hbx HS c1 c2 KEEP K1
      by_cases hq : q < 0
      · have d9 : decide (q < 0) = true := by simpa using hq
        have HG := Lib.hid (HG1.out _ hq HS2.out)
        clear hq HG1 HG2 HS2
        rw [d9]
        go_wp2
        exact ⟨by simpa using HG.out, by simp [intOf]; omega⟩
      · have d9 : decide (q < 0) = false := by simpa using hq
        have HG := Lib.hid (HG2.out _ (by omega) HS2.out)
        clear hq HG1 HG2 HS2
        rw [d9]
        go_wp2
        exact ⟨by simpa using HG.out, by simp [intOf]; omega⟩
    · obtain rfl : i = j := by omega
      have q1 : ¬ (i : Int) < (i : Int) := by omega
      have HE := Lib.hid (show SegOn D (rotD D i m (m + 1)) a (m + 1) from (rot_seg D hj (by omega)).mono hi (Nat.le_refl _))
      have HT := Lib.hid (show SortedOn l (rotD D i m (m + 1)) a (m + 1) from put_down hi hj HR.out HX.out HA.out HB.out)
      clear HA HB
      go_wp2
      go_loopw [17] (fun y wr => dnShift w0 c al l.length cap g i m D y wr) (fun y _ => (intOf y).toNat)
      case atStart => exact ⟨m, rfl, hj, Nat.le_refl _, by rw [rot_left D m (m + 1) (by omega)]; exact HS.out⟩
      case round =>
        obtain ⟨k, rfl, hk, hki, hSr⟩ := hrel
        clear HS
        by_cases hlt : i < k
        · obtain ⟨p, rfl⟩ : ∃ p, k = p + 1 := ⟨k - 1, by omega⟩
          have q2 : (i : Int) < (p : Int) + 1 := by omega
          have c1 := hSr.cell (p + 1) (by omega)
          have c2 := hSr.cell p (by omega)
          have f1 := hSr.free (p + 1)
          have f2 := hSr.free p
          have c3 := hSr.second (i := p + 1) (j := p) (by omega) (by omega) (.int .i64 (rotD D (p + 1) m (m + 1) p))
          have hput := hSr.swap hg hcg (p + 1) p (by omega)
          rw [rot_down D p m (by omega)] at hput
          have HP := Lib.hid (hput.go (Below.refl _ _).drew)
          clear hput hSr
          generalize rotD D (p + 1) m (m + 1) (p + 1) = x at *
          generalize rotD D (p + 1) m (m + 1) p = y at *
          have mixed : Tryz.prog.follows Departure.mixedOrders = true := by kernel_rfl
          have r1 : IntKind.i64.wrap ((p : Int) + 1 - 1) = (p : Int) := by rw [IntKind.wrap_i64]; omega
          have s1 : (0 : Int) ≤ (p : Int) + 1 := by omega
          have s2 : (0 : Int) ≤ (p : Int) := by omega
          have s3 : (p : Int) < (l.length : Int) := by omega
          have s4 : (p : Int) + 1 < (l.length : Int) := by omega
          have t1 : ((p : Int) + 1).toNat = p + 1 := by omega
          have t2 : ((p : Int)).toNat = p := by omega
          rw [show ((p + 1 : Nat) : Int) = (p : Int) + 1 from by omega]
          go_wp2_with fail
          go_big_region_o
          generalize ((wr.setCell ⟨g, p + 1, none⟩ (.int .i64 y)).setCell ⟨g, p, none⟩ (.int .i64 x)).drew = x2 at HP ⊢
          clear c1 c2 c3 f1 f2
          go_wp2
          exact ⟨⟨p, by go_num, by omega, by omega, HP.out⟩, by simp [intOf]⟩
        · have q2 : ¬ (i : Int) < (k : Int) := by omega
          obtain rfl : i = k := by omega
          have HP := Lib.hid hSr
          clear hSr
          go_wp2
          go_end0
          rw [HB0.out]
          exact ⟨rfl, _, HE.out, HT.out, HP.out⟩
end Go.Proofs.YthgghaaddankoaaGreatDoor
