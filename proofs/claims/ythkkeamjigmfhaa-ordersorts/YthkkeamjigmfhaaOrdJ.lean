/- slices.stableCmpFunc, SortStableFunc over up to 20 places; order.sortedPlaces. -/
import Derived.Test.YthkkeamjigmfhaaOrdI
import Derived.Laws.MakeOwn
namespace Go.Proofs.Ythkkeamjigmfhaa
open Go.RowKit
set_option maxHeartbeats 1000000 in
theorem ins_none (g n : Nat) (v : Value) (b : Int) (hb : b ≤ 21) (w : World) :
    Calls Try.prog 52 #[.slice (some ⟨g, 0, none⟩) n n, .int .i64 20, .int .i64 b, v] w fun e w' => e = .returned (.tuple #[]) ∧ w' = w := by
  go_enter Try.func52, Try.ntmps52
  go_wp2
  go_loopw [8] (fun y wr => y = .int .i64 21 ∧ wr = w) (fun _ _ => 0)
  case atStart => exact ⟨rfl, rfl⟩
  case round =>
    obtain ⟨rfl, rfl⟩ := hrel
    have d1 : ¬ (21 : Int) < b := by omega
    go_wp2
    go_end0
    exact ⟨rfl, rfl⟩
def stInv (l : List Rx) (w0 : World) (c : Nat) (al : Option Addr) (cap g : Nat) (w : World) (a b : Value) (wr : World) : Prop := (a = .int .i64 0 ∧ b = .int .i64 20 ∧ wr = w) ∨ (a = .int .i64 20 ∧ b = .int .i64 40 ∧ ∃ ds, Placed l l.length ds ∧ SortAt w0 c al l.length cap g ds wr)
set_option maxHeartbeats 2000000 in
theorem stable_any {ok : Nat → Prop} (l : List Rx) (al : Option Addr) (cap c g : Nat) (w0 w : World) (hl : l.length ≤ 20) (hR : RowAt ok w0 al l) (hg : w0.heap.size ≤ g) (hcg : c ≠ g) (hS : SortAt w0 c al l.length cap g (List.range l.length) w) :
    Calls Try.prog 40 #[.slice (some ⟨g, 0, none⟩) l.length l.length, .int .i64 l.length, .func (.func 36) #[] #[.pointer (some ⟨c, 0, none⟩)]] w (SortedPost l w0 c al cap g) := by
  have K := Lib.hid fun (b : Int) (hb : b = l.length) => show Calls Try.prog 52 #[.slice (some ⟨g, 0, none⟩) l.length l.length, .int .i64 0, .int .i64 b, .func (.func 36) #[] #[.pointer (some ⟨c, 0, none⟩)]] w (SortedPost l w0 c al cap g) from by
    subst hb; exact insertion_any l al cap c g w0 w (by omega) hR hg hcg hS
  have d2 : ¬ (20 : Int) < (l.length : Int) := by omega
  clear hR hS
  by_cases h20 : l.length = 20
  · have d1 : (20 : Int) ≤ (l.length : Int) := by omega
    have d3 : ¬ (40 : Int) ≤ (l.length : Int) := by omega
    have e1 : (20 : Int) = (l.length : Int) := by omega
    have E1 := Lib.hid e1
    clear e1 h20
    go_enter Try.func40, Try.ntmps40
    go_wp2
    go_loopw [7, 8] (fun a b wr => stInv l w0 c al cap g w a b wr) (fun _ b _ => 40 - (intOf b).toNat)
    case atStart => exact .inl ⟨rfl, rfl, rfl⟩
    case round =>
      rcases hrel with ⟨rfl, rfl, rfl⟩ | ⟨rfl, rfl, ds, hds, hS⟩
      · go_wp2_with fail
        refine (K.out _ E1.out).mono ?_
        rintro e w1 ⟨rfl, ds, hds, hS⟩
        have H := Lib.hid (show stInv l w0 c al cap g wr (.int .i64 20) (.int .i64 40) w1 from .inr ⟨rfl, rfl, ds, hds, hS⟩)
        clear hds hS
        go_wp2
        exact ⟨H.out, by simp [intOf]⟩
      · have H := Lib.hid hS
        have HD := Lib.hid hds
        clear hS hds
        go_wp2_with fail
        refine (ins_none g l.length _ _ (by omega) _).mono ?_
        rintro e w1 ⟨rfl, rfl⟩
        go_wp2
        go_loopw [6] (fun a wr => a = .int .i64 20 ∧ wr = w1) (fun _ _ => 0)
        case atStart => exact ⟨rfl, rfl⟩
        case round =>
          obtain ⟨rfl, rfl⟩ := hrel
          go_wp2
          go_end0
          exact ⟨rfl, ds, HD.out, H.out⟩
  · have d1 : ¬ (20 : Int) ≤ (l.length : Int) := by omega
    clear h20
    go_enter Try.func40, Try.ntmps40
    go_wp2
    go_loopw [7, 8] (fun a b wr => a = .int .i64 0 ∧ b = .int .i64 20 ∧ wr = w) (fun _ b _ => 40 - (intOf b).toNat)
    case atStart => exact ⟨rfl, rfl, rfl⟩
    case round =>
      obtain ⟨rfl, rfl, rfl⟩ := hrel
      go_wp2_with fail
      refine (K.out _ rfl).mono ?_
      rintro e w1 ⟨rfl, ds, hds, hS⟩
      have H := Lib.hid hS
      have HD := Lib.hid hds
      clear hS hds
      go_wp2
      go_loopw [6] (fun a wr => a = .int .i64 20 ∧ wr = w1) (fun _ _ => 0)
      case atStart => exact ⟨rfl, rfl⟩
      case round =>
        obtain ⟨rfl, rfl⟩ := hrel
        go_wp2
        go_end0
        exact ⟨rfl, ds, HD.out, H.out⟩
set_option maxHeartbeats 1000000 in
theorem sortStable_any {ok : Nat → Prop} (l : List Rx) (al : Option Addr) (cap c g : Nat) (w0 w : World) (hl : l.length ≤ 20) (hR : RowAt ok w0 al l) (hg : w0.heap.size ≤ g) (hcg : c ≠ g) (hS : SortAt w0 c al l.length cap g (List.range l.length) w) :
    Calls Try.prog 35 #[.slice (some ⟨g, 0, none⟩) l.length l.length, .func (.func 36) #[] #[.pointer (some ⟨c, 0, none⟩)]] w (SortedPost l w0 c al cap g) := by
  have K := Lib.hid (stable_any l al cap c g w0 w hl hR hg hcg hS)
  clear hR hS
  go_enter Try.func35, Try.ntmps35
  go_wp2_with fail
  refine K.out.mono ?_
  rintro e w1 ⟨rfl, h⟩
  have H := Lib.hid h
  clear h
  go_wp2
  go_end0
  exact ⟨rfl, H.out⟩
theorem infoI : (Try.prog.info? 3).map (fun i => (i.zero, i.size, i.bytes)) = some (some (.int .i64 0), 1, 8) := by kernel_rfl
theorem made_ints (n : Nat) : madeCells #[.int .i64 0] n = ints (List.replicate n 0) := by
  refine Array.ext (by simp [ints, madeCells]) fun i h1 h2 => ?_
  simp [ints, madeCells, Nat.mod_one]
theorem make_int (n : Nat) (hn : n < 2199023255552) (u : World) : (Instr.makeSlice 47 (.int .i64 (n : Int)) (.int .i64 (n : Int))).run Try.prog u =
    .ok (.slice (some ⟨u.heap.size, 0, none⟩) n n) (u.alloc (.cells (ints (List.replicate n 0)) 3)) := by
  obtain ⟨i0, hi, hz0, hz1, hz2⟩ := info_parts infoI
  have h := run_make (P := Try.prog) u 47 3 i0 _ Try.underlying47 hi hz0 .i64 .i64 (n : Int) (n : Int) (by omega) (Int.le_refl _) (by rw [hz2]; omega) (by omega)
  rw [← made_ints]
  simpa [hz1, Value.cells] using h
theorem fill_step {i n : Nat} (h : i < n) : (List.range i ++ List.replicate (n - i) 0).set i i = List.range (i + 1) ++ List.replicate (n - (i + 1)) 0 := by
  rw [show n - i = (n - (i + 1)) + 1 from by omega, List.replicate_succ, List.set_append_right _ _ (by simp), List.range_succ]
  simp
theorem fill_at {i n : Nat} (_h : i < n) (h' : i < (List.range i ++ List.replicate (n - i) 0).length) : (List.range i ++ List.replicate (n - i) 0)[i] = 0 := by
  rw [List.getElem_append_right (by simp)]; simp
def fillInv (w : World) (al : Option Addr) (n cap : Nat) (y : Value) (wr : World) : Prop := ∃ i : Nat, i ≤ n ∧ y = .int .i64 i ∧ SortAt w w.heap.size al n cap (w.heap.size + 1) (List.range i ++ List.replicate (n - i) 0) wr
def PlacesPost (l : List Rx) (w : World) (e : Ending) (w' : World) : Prop := ∃ g ds, e = .returned (.slice (some ⟨g, 0, none⟩) l.length l.length) ∧ w.heap.size ≤ g ∧ Placed l l.length ds ∧ IntsAt w' g ds ∧ Below w.heap.size w w'
set_option maxHeartbeats 2000000 in
theorem places_any {ok : Nat → Prop} (l : List Rx) (al : Option Addr) (cap : Nat) (w : World) (hl : l.length ≤ 20) (hR : RowAt ok w al l) :
    Calls Try.prog 27 #[.slice al l.length cap] w (PlacesPost l w) := by
  have K := Lib.hid fun W (h : SortAt w w.heap.size al l.length cap (w.heap.size + 1) (List.range l.length) W) => sortStable_any l al cap w.heap.size (w.heap.size + 1) w W hl hR (by omega) (by omega) h
  have hmk := make_int l.length (by omega)
  clear hR
  go_enter Try.func27, Try.ntmps27
  go_wp2
  go_loopw [10] (fun y wr => fillInv w al l.length cap y wr) (fun y _ => l.length - (intOf y).toNat)
  case atStart =>
    refine ⟨0, Nat.zero_le _, rfl, ((Below.refl _ w).alloc (Nat.le_refl _) _).alloc (by simp) _, ?_, ?_⟩
    · exact (Below.heap_alloc _ _ _ (by simp)).trans (blk_new w _)
    · exact (blk_at _ _ (by simp)).trans (by simp)
  case round =>
    obtain ⟨i, hi, rfl, hS⟩ := hrel
    by_cases hlt : i < l.length
    · have c0 := hS.2.2.cell i (by simp; omega)
      rw [fill_at hlt] at c0
      have f0 := hS.2.2.free i
      have hput := hS.put (by omega) (by omega) i i
      rw [fill_step hlt] at hput
      have H := Lib.hid hput
      have q1 : (i : Int) < (l.length : Int) := by omega
      clear hS hput
      go_wp2
      exact ⟨⟨i + 1, by omega, by go_num, H.out⟩, by simp [intOf]; omega⟩
    · rw [show i = l.length from by omega] at hS ⊢
      rw [Nat.sub_self, List.replicate_zero, List.append_nil] at hS
      have KS := Lib.hid (K.out wr hS)
      clear hS
      go_wp2_with fail
      refine KS.out.mono ?_
      rintro e w1 ⟨rfl, ds, hds, hS⟩
      have HD := Lib.hid hds
      have H := Lib.hid hS
      clear hds hS
      go_wp2
      go_ret
      exact ⟨w.heap.size + 1, ds, rfl, by omega, HD.out, H.out.2.2, H.out.1⟩
end Go.Proofs.Ythkkeamjigmfhaa
