/- slices.CompactFunc over places. -/
import Derived.Test.YthkkeamjigmfhaaOrdJ
import Derived.Lib.SliceRun
namespace Go.Proofs.Ythkkeamjigmfhaa
open Go.RowKit
theorem take_set_ge (l : List Nat) (n m x : Nat) (h : n ≤ m) : (l.set m x).take n = l.take n := by
  refine List.ext_getElem? fun i => ?_
  rw [List.getElem?_take, List.getElem?_take, List.getElem?_set]
  by_cases e : i < n
  · rw [if_pos e, if_pos e, if_neg (by omega)]
  · rw [if_neg e, if_neg e]
theorem SortAt.wipe {w0 : World} {c : Nat} {al : Option Addr} {n cap g : Nat} (hg : w0.heap.size ≤ g) (hcg : c ≠ g) : ∀ (m o : Nat) (D : List Nat) (w : World), SortAt w0 c al n cap g D w → ∃ D', D'.take o = D.take o ∧ SortAt w0 c al n cap g D' (w.setCells g o (List.replicate m (.int .i64 0)))
  | 0, o, D, w, h => ⟨D, rfl, by simpa [World.setCells] using h⟩
  | m + 1, o, D, w, h => by
    have h1 := h.put hg hcg o 0
    obtain ⟨D', e, h2⟩ := SortAt.wipe hg hcg m (o + 1) _ _ h1
    refine ⟨D', ?_, by simpa [World.setCells, List.replicate_succ] using h2⟩
    have := congrArg (List.take o) e
    rw [List.take_take, List.take_take, Nat.min_eq_left (by omega), take_set_ge _ _ _ _ (Nat.le_refl _)] at this
    exact this
theorem cpt_step_eq {l : List Rx} {ds : List Nat} {m : Nat} (h0 : m ≠ 0) (hm : m < ds.length) (h : ordR (atR l ds[m]) (atR l (ds[m - 1]'(by omega))) = 0) : cpt l ds (m + 1) = cpt l ds m := by
  have step : cpt l ds (m + 1) = if m = 0 ∨ ordR (atR l (ds.getD m 0)) (atR l (ds.getD (m - 1) 0)) ≠ 0 then cpt l ds m ++ [ds.getD m 0] else cpt l ds m := rfl
  rw [step, if_neg]
  intro hh
  rcases hh with hh | hh
  · exact h0 hh
  · apply hh
    simpa [List.getD, hm, show m - 1 < ds.length from by omega] using h
theorem cpt_step_ne {l : List Rx} {ds : List Nat} {m : Nat} (hm : m < ds.length) (h : m = 0 ∨ ordR (atR l ds[m]) (atR l (ds[m - 1]'(by omega))) ≠ 0) : cpt l ds (m + 1) = cpt l ds m ++ [ds[m]] := by
  have step : cpt l ds (m + 1) = if m = 0 ∨ ordR (atR l (ds.getD m 0)) (atR l (ds.getD (m - 1) 0)) ≠ 0 then cpt l ds m ++ [ds.getD m 0] else cpt l ds m := rfl
  rw [step, if_pos]
  · simp [List.getD, hm]
  · rcases h with h | h
    · exact .inl h
    · right
      simpa [List.getD, hm, show m - 1 < ds.length from by omega] using h
/-- How far the writing of those that stay has come. -/
def CptInv (l : List Rx) (ds D : List Nat) (m kk : Nat) : Prop := D.length = ds.length ∧ kk + 1 ≤ m ∧ m ≤ ds.length ∧ D.take kk = cpt l ds m ∧ kk = (cpt l ds m).length ∧ D.drop (m - 1) = ds.drop (m - 1)
theorem CptInv.at {l : List Rx} {ds D : List Nat} {m kk : Nat} (h : CptInv l ds D m kk) (j : Nat) (hj : m - 1 ≤ j) (h1 : j < D.length) (h2 : j < ds.length) : D[j] = ds[j] := by
  have e := h.2.2.2.2.2
  have := congrArg (fun x => x[j - (m - 1)]?) e
  simp only [List.getElem?_drop, show m - 1 + (j - (m - 1)) = j from by omega, List.getElem?_eq_getElem h1, List.getElem?_eq_getElem h2, Option.some.injEq] at this
  exact this
theorem CptInv.skip {l : List Rx} {ds D : List Nat} {m kk : Nat} (h : CptInv l ds D m kk) (hm : m < ds.length) (he : ordR (atR l ds[m]) (atR l (ds[m - 1]'(by omega))) = 0) : CptInv l ds D (m + 1) kk := by
  obtain ⟨h1, h2, h3, h4, h5, h6⟩ := h
  have e := cpt_step_eq (by omega) hm he
  refine ⟨h1, by omega, by omega, by rw [e]; exact h4, by rw [e]; exact h5, ?_⟩
  have := congrArg (List.drop 1) h6
  simp only [List.drop_drop] at this
  rw [show m + 1 - 1 = m - 1 + 1 from by omega]
  simpa [Nat.add_comm] using this
theorem CptInv.keep {l : List Rx} {ds D : List Nat} {m kk : Nat} (h : CptInv l ds D m kk) (hm : m < ds.length) (he : ordR (atR l ds[m]) (atR l (ds[m - 1]'(by omega))) ≠ 0) : CptInv l ds (D.set kk ds[m]) (m + 1) (kk + 1) := by
  obtain ⟨h1, h2, h3, h4, h5, h6⟩ := h
  have e := cpt_step_ne hm (.inr he)
  refine ⟨by simp [h1], by omega, by omega, ?_, by rw [e]; simp [← h5], ?_⟩
  · rw [e, ← h4, List.take_succ_eq_append_getElem (by simp; omega)]
    simp [take_set_ge]
  · rw [List.drop_set_of_lt (by omega)]
    have := congrArg (List.drop 1) h6
    simp only [List.drop_drop] at this
    rw [show m + 1 - 1 = m - 1 + 1 from by omega]
    simpa [Nat.add_comm] using this
theorem cpt_all {l : List Rx} {ds : List Nat} : ∀ i, i ≤ ds.length → (∀ m (h : m < ds.length), m < i → m = 0 ∨ ordR (atR l ds[m]) (atR l (ds[m - 1]'(by omega))) ≠ 0) → cpt l ds i = ds.take i
  | 0, _, _ => by simp [cpt]
  | i + 1, hi, h => by
    rw [cpt_step_ne (by omega) (h i (by omega) (by omega)), cpt_all i (by omega) fun m h1 h2 => h m h1 (by omega), ← List.take_succ_eq_append_getElem]
def runInv (l : List Rx) (ds : List Nat) (w0 : World) (c : Nat) (al : Option Addr) (cap g : Nat) (y : Value) (wr : World) : Prop := ∃ i : Nat, 1 ≤ i ∧ i ≤ ds.length ∧ y = .int .i64 i ∧ (∀ m (h : m < ds.length), m < i → m = 0 ∨ ordR (atR l ds[m]) (atR l (ds[m - 1]'(by omega))) ≠ 0) ∧ SortAt w0 c al l.length cap g ds wr
def moveInv (l : List Rx) (ds : List Nat) (w0 : World) (c : Nat) (al : Option Addr) (cap g i : Nat) (y z : Value) (wr : World) : Prop := ∃ (kk j : Nat) (D : List Nat), 1 ≤ j ∧ y = .int .i64 kk ∧ z = .int .i64 j ∧ CptInv l ds D (i + j) kk ∧ SortAt w0 c al l.length cap g D wr
def CompPost (l : List Rx) (ds : List Nat) (w0 : World) (c : Nat) (al : Option Addr) (cap g : Nat) (e : Ending) (w' : World) : Prop := ∃ Z, e = .returned (.slice (some ⟨g, 0, none⟩) (cpt l ds ds.length).length ds.length) ∧ SortAt w0 c al l.length cap g (cpt l ds ds.length ++ Z) w'
theorem zeroI : ∀ w, (zeroValue 3).run Try.prog w = .ok (.int .i64 0) w := fun _ => rfl
set_option maxHeartbeats 4000000 in
theorem compact_any {ok : Nat → Prop} (l : List Rx) (ds : List Nat) (al : Option Addr) (cap c g : Nat) (w0 w : World) (hl : ds.length ≤ 1000000) (hR : RowAt ok w0 al l) (hd : ∀ x ∈ ds, x < l.length) (hg : w0.heap.size ≤ g) (hcg : c ≠ g) (hS : SortAt w0 c al l.length cap g ds w) :
    Calls Try.prog 28 #[.slice (some ⟨g, 0, none⟩) ds.length ds.length, .func (.func 29) #[] #[.pointer (some ⟨c, 0, none⟩)]] w (CompPost l ds w0 c al cap g) := by
  have KC := Lib.hid fun W D (h : SortAt w0 c al l.length cap g D W) i k (hi : i < l.length) (hk : k < l.length) => eqAt l al cap c i k W (hR.below h.1) h.2.1 hi hk
  have HS := Lib.hid hS
  have HD := Lib.hid hd
  clear hR hS hd
  by_cases h2 : ds.length < 2
  · have d1 : (ds.length : Int) < 2 := by omega
    have he : cpt l ds ds.length = ds := by
      rw [cpt_all ds.length (Nat.le_refl _) fun m h1 _ => .inl (by omega), List.take_length]
    have HE := Lib.hid he
    clear he
    go_enter Try.func28, Try.ntmps28
    go_wp2
    go_ret
    exact ⟨[], by rw [HE.out]; rfl, by rw [HE.out, List.append_nil]; exact HS.out⟩
  · have d1 : ¬ (ds.length : Int) < 2 := by omega
    go_enter Try.func28, Try.ntmps28
    go_wp2
    go_loopw [5] (fun y wr => runInv l ds w0 c al cap g y wr) (fun y _ => ds.length - (intOf y).toNat)
    case atStart => exact ⟨1, Nat.le_refl _, by omega, rfl, fun m _ h => .inl (by omega), HS.out⟩
    case round =>
      obtain ⟨i, hi1, hi2, rfl, hall, hSr⟩ := hrel
      clear HS
      by_cases hlt : i < ds.length
      · have hx := HD.out ds[i] (List.getElem_mem hlt)
        have hy := HD.out (ds[i - 1]'(by omega)) (List.getElem_mem _)
        have c1 := hSr.2.2.cell i hlt
        have c2 := hSr.2.2.cell (i - 1) (by omega)
        have KE := Lib.hid (KC.out wr.drew ds (hSr.go (Below.refl _ _).drew) _ _ hx hy)
        have s1 := fun h => cpt_step_eq (l := l) (ds := ds) (m := i) (by omega) hlt h
        have s2 : ordR (atR l ds[i]) (atR l (ds[i - 1]'(by omega))) ≠ 0 → ∀ m (h : m < ds.length), m < i + 1 → m = 0 ∨ ordR (atR l ds[m]) (atR l (ds[m - 1]'(by omega))) ≠ 0 := fun hne m h hm => by
          by_cases e : m = i
          · subst e; exact .inr hne
          · exact hall m h (by omega)
        have htk := cpt_all i hi2 hall
        obtain ⟨p, rfl⟩ : ∃ p, i = p + 1 := ⟨i - 1, by omega⟩
        simp only [Nat.add_sub_cancel] at c2 KE s1 s2
        have HS := Lib.hid hSr
        have S1 := Lib.hid s1
        have S2 := Lib.hid s2
        have HTK := Lib.hid htk
        clear hSr s1 s2 htk hall
        generalize ds[p + 1] = x at *
        generalize ds[p]'(by omega) = y at *
        generalize ordR (atR l x) (atR l y) = q at *
        have p0 : (0 : Int) ≤ (p : Int) + 1 := by omega
        have p1 : (0 : Int) ≤ (p : Int) := by omega
        have d3 : (p : Int) + 1 < (ds.length : Int) := by omega
        have d4 : (p : Int) < (ds.length : Int) := by omega
        have r1 : IntKind.i64.wrap ((p : Int) + 1) = (p : Int) + 1 := by rw [IntKind.wrap_i64]; omega
        have r2 : IntKind.i64.wrap (p : Int) = (p : Int) := by rw [IntKind.wrap_i64]; omega
        have t1 : ((p : Int) + 1).toNat = p + 1 := by omega
        have t2 : ((p : Int)).toNat = p := by omega
        rw [show ((p + 1 : Nat) : Int) = (p : Int) + 1 from by omega]
        go_wp2_with fail
        go_still_tail 10, (by kernel_rfl)
        change wpList _ _ _ _ _ wr.drew
        go_wp2_with fail
        refine KE.out.mono ?_
        rintro e w1 ⟨rfl, hb1⟩
        have HS1 := Lib.hid (HS.out.go ((Below.refl _ wr).drew.trans hb1))
        clear hb1 c1 c2 KE HS
        by_cases hq : q = 0
        · subst hq
          have hin : CptInv l ds ds (p + 1 + 1) (p + 1) := by
            have e := S1.out rfl
            rw [HTK.out] at e
            exact ⟨rfl, Nat.le_refl _, by omega, by rw [e], by rw [e, List.length_take]; omega, rfl⟩
          have HIN := Lib.hid hin
          clear hin S1 S2 HTK
          have n1 : ¬ ds.length = p + 1 := by omega
          have n2 : (p : Int) + 1 ≤ (ds.length : Int) := by omega
          have n3 : ¬ (ds.length : Int) < (p : Int) + 1 := by omega
          go_wp2
          generalize hE : ds.length - (p + 1) = e
          go_loopw [5, 7] (fun y z wr => moveInv l ds w0 c al cap g (p + 1) y z wr) (fun _ z _ => ds.length - (intOf z).toNat)
          case atStart => exact ⟨p + 1, 1, ds, Nat.le_refl _, by go_num, rfl, HIN.out, HS1.out⟩
          case round =>
            obtain ⟨kk, j, D, hj1, rfl, rfl, hI, hSr⟩ := hrel
            clear HS1 HIN d3 d4 n1 n2 n3 r1 r2 t1 t2 p0 p1
            obtain ⟨r, rfl⟩ : ∃ r, j = r + 1 := ⟨j - 1, by omega⟩
            have hDl := hI.1
            have hkk := hI.2.1
            have hle := hI.2.2.1
            by_cases hlt2 : r + 1 < e
            · have hm : p + 1 + (r + 1) < ds.length := by omega
              have hm' : p + 1 + r < ds.length := by omega
              have hx := HD.out ds[p + 1 + (r + 1)] (List.getElem_mem hm)
              have hy := HD.out ds[p + 1 + r] (List.getElem_mem hm')
              have c1 := hSr.2.2.cell (p + 1 + (r + 1)) (by omega)
              have c2 := hSr.2.2.cell (p + 1 + r) (by omega)
              rw [hI.at _ (by omega) (by omega) hm] at c1
              rw [hI.at _ (by omega) (by omega) hm'] at c2
              have c3 := hSr.2.2.cell kk (by omega)
              generalize D[kk]'(by omega) = old at c3
              have f3 := hSr.2.2.free kk
              have KE := Lib.hid (KC.out wr.drew D (hSr.go (Below.refl _ _).drew) _ _ hx hy)
              have s1 := fun h => hI.skip hm h
              have s2 := fun h => hI.keep hm h
              have s3 := fun W (hW : SortAt w0 c al l.length cap g D W) => hW.put hg hcg kk ds[p + 1 + (r + 1)]
              simp only [show p + 1 + (r + 1) - 1 = p + 1 + r from by omega] at s1 s2
              have HS := Lib.hid hSr
              have S1 := Lib.hid s1
              have S2 := Lib.hid s2
              have S3 := Lib.hid s3
              clear hSr s1 s2 s3 hI
              generalize ds[p + 1 + (r + 1)] = x2 at *
              generalize ds[p + 1 + r] = y2 at *
              generalize ordR (atR l x2) (atR l y2) = q at *
              have hglt := HS.out.2.2.lt
              have p0 : (0 : Int) ≤ (r : Int) + 1 := by omega
              have p1 : (0 : Int) ≤ (r : Int) := by omega
              have d3 : (r : Int) + 1 < (e : Int) := by omega
              have d4 : (r : Int) < (e : Int) := by omega
              have d5 : (kk : Int) < (ds.length : Int) := by omega
              have r1 : IntKind.i64.wrap ((r : Int) + 1) = (r : Int) + 1 := by rw [IntKind.wrap_i64]; omega
              have r2 : IntKind.i64.wrap (r : Int) = (r : Int) := by rw [IntKind.wrap_i64]; omega
              have t1 : ((r : Int) + 1).toNat = r + 1 := by omega
              have t2 : ((r : Int)).toNat = r := by omega
              rw [show ((r + 1 : Nat) : Int) = (r : Int) + 1 from by omega]
              go_wp2_with fail
              go_still_tail 10, (by kernel_rfl)
              change wpList _ _ _ _ _ wr.drew
              go_wp2_with fail
              refine KE.out.mono ?_
              rintro _ w2 ⟨rfl, hb1⟩
              have hbd : Below wr.heap.size wr w2 := (Below.refl _ wr).drew.trans hb1
              have HS2 := Lib.hid (HS.out.go hbd)
              replace c1 := (hbd.cell (p := ⟨g, p + 1 + (r + 1), none⟩) hglt).trans c1
              replace c3 := (hbd.cell (p := ⟨g, kk, none⟩) hglt).trans c3
              replace f3 := HS2.out.2.2.free kk
              replace hglt : g < w2.heap.size := Nat.lt_of_lt_of_le hglt hbd.size
              clear hb1 hbd c2 KE HS
              by_cases hq : q = 0
              · subst hq
                have HI := Lib.hid (S1.out rfl)
                clear S1 S2 S3
                go_wp2
                exact ⟨⟨kk, r + 1 + 1, D, by omega, rfl, by go_num, by simpa [Nat.add_assoc] using HI.out, HS2.out⟩, by simp [intOf]; omega⟩
              · have e0 : (q == 0) = false := by simpa using hq
                have HI := Lib.hid (S2.out hq)
                have HS3 := Lib.hid (S3.out _ HS2.out)
                clear hq S1 S2 S3 HS2
                rw [e0]
                go_wp2
                exact ⟨⟨kk + 1, r + 1 + 1, D.set kk x2, by omega, by go_num, by go_num, by simpa [Nat.add_assoc] using HI.out, HS3.out⟩, by simp [intOf]; omega⟩
            · have hend : p + 1 + (r + 1) = ds.length := by omega
              have hcl : ∀ ty, (Builtin.clear_ #[47] ty #[.slice (some ⟨g, kk, none⟩) (ds.length - kk) (ds.length - kk)]).run Try.prog wr = .ok (.tuple #[]) (wr.setCells g kk (List.replicate (ds.length - kk) (.int .i64 0))) :=
                fun ty => Lib.run_clear_slice wr _ _ ty _ Try.underlying47 zeroI rfl rfl g kk _ _ (by omega) (fun j hj => by rw [hSr.2.2.cell (kk + j) (by omega)]; rfl) (fun j _ => hSr.2.2.free (kk + j))
              obtain ⟨D', hD', hS'⟩ := SortAt.wipe hg hcg (ds.length - kk) kk D wr hSr
              rw [hend] at hI
              have hfin : D' = cpt l ds ds.length ++ D'.drop kk := by
                rw [← hI.2.2.2.1, ← hD', List.take_append_drop]
              have hkl := hI.2.2.2.2.1
              rw [hfin] at hS'
              have HS2 := Lib.hid hS'
              have HKL := Lib.hid hkl
              clear hI hSr hfin hS' hD' hkl
              have d3 : ¬ (r : Int) + 1 < (e : Int) := by omega
              have n1 : ¬ ds.length = kk := by omega
              have n2 : (kk : Int) ≤ (ds.length : Int) := by omega
              have n4 : kk ≤ ds.length := by omega
              rw [show ((r + 1 : Nat) : Int) = (r : Int) + 1 from by omega]
              go_wp2
              go_ret
              exact ⟨_, by rw [← HKL.out]; rfl, HS2.out⟩
        · have e0 : (q == 0) = false := by simpa using hq
          have HA := Lib.hid (S2.out hq)
          clear hq
          rw [e0]
          go_wp2
          exact ⟨⟨p + 1 + 1, by omega, by omega, by go_num, HA.out, HS1.out⟩, by simp [intOf]; omega⟩
      · have he : i = ds.length := by omega
        have hc : cpt l ds ds.length = ds := by
          subst he
          have := cpt_all ds.length (Nat.le_refl _) hall
          rwa [List.take_length] at this
        have HC := Lib.hid hc
        have HS := Lib.hid hSr
        have d5 : ¬ (i : Int) < (ds.length : Int) := by omega
        clear hc hSr hall he
        go_wp2
        go_ret
        exact ⟨[], by rw [HC.out]; rfl, by rw [HC.out, List.append_nil]; exact HS.out⟩
end Go.Proofs.Ythkkeamjigmfhaa
