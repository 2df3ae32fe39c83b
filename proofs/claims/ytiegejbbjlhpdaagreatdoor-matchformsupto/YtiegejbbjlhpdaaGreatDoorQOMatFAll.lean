/- Lemmas of mine, merged: QOMatF, QOMatG. -/
import Derived.Laws.CopyOwn
import Derived.Laws.MakeOwn
import Derived.Test.YtiegejbbjlhpdaaGreatDoorQORexEAll
/- Lemmas of mine. -/
namespace Go.Proofs.YtiegejbbjlhpdaaGreatDoor
open Go.RowKit
theorem eval_tmp {a : Act} {j : Nat} {v : Value} (h : a.tmps[j]? = some v) : a.eval (.tmp j) = v := by
  show a.tmps.getD j undef = v
  rw [Array.getD_eq_getD_getElem?, h]; rfl
set_option maxRecDepth 100000 in
theorem uInts : Tryz.prog.underlying 35 = some (.slice 3) := by kernel_rfl
set_option maxRecDepth 100000 in
theorem sizeI10 : (Tryz.prog.info? 3).map (·.size) = some 1 := by kernel_rfl
theorem app_ints (w : World) (ty : TypeId) (v u : Value) (l m : List Nat) (hv : OwnI w v l) (hu : OwnI w u m) (hs : l.length + m.length ≤ 1000) :
    ∃ v' w', (Builtin.append_ #[35, 35] ty #[v, u]).run Tryz.prog w = .ok v' w' ∧ OwnI w' v' (l ++ m) ∧ (v'.ownBlock = v.ownBlock ∨ v'.ownBlock = some w.heap.size) ∧ w.grownBy w' v.ownBlock := by
  obtain ⟨i0, hi0, hz0, hz1, hz2⟩ := info_parts infoI10
  rcases hu.form with ⟨rfl, rfl⟩ | ⟨f, cap, cur, rfl, h2, h3, h4, h5, h6⟩
  · rw [List.append_nil]
    exact ⟨v, w, run_append_owned_none (P := Tryz.prog) w 0 35 ty 3 i0 1 uInts hi0 v l.length (intsL l) hv, hv, .inl rfl, ⟨rfl, rfl, rfl, Nat.le_refl _, fun _ _ _ => rfl⟩⟩
  · have hnews : ∀ j x, (intsL m)[j]? = some x → w.cell? ((⟨f, 0, none⟩ : Addr).add j) = some x := by
      intro j x hx
      obtain ⟨hj, hx2⟩ := List.getElem?_eq_some_iff.1 hx
      rw [intsL_len] at hj
      rw [Go.WideShapes.add_plain, Nat.zero_add, hu.cell j hj, ← hx2]
      simp [intsL]
    have hone : ∀ x ∈ intsL m, x.oneCell' = true := by
      intro x hx
      obtain ⟨_, _, rfl⟩ := List.mem_map.1 hx
      rfl
    by_cases hm : m = []
    · subst hm
      rcases id hv.form with ⟨rfl, rfl⟩ | ⟨f', cap', cur', rfl, k2, k3, k4, k5, k6⟩
      · obtain ⟨v', w', hr, ho, hg, hiff⟩ := run_append_own (P := Tryz.prog) w 0 35 ty 3 i0 (.int .i64 0) 1 8 uInts hi0 hz0 hz1 hz2 rfl (by decide) (.slice none 0 0) 0 [] hv ⟨f, 0, none⟩ 0 cap [] rfl (fun j x hx => by cases hx) (fun x hx => by cases hx) (by unfold maxLen; omega) (by omega) (Nat.zero_le _)
        obtain rfl := hiff.2 ⟨rfl, rfl⟩
        exact ⟨_, w', hr, ho, .inl rfl, hg⟩
      · have hr := run_append_room (P := Tryz.prog) w 35 ty 3 i0 uInts hi0 f' l.length cap' cur' k2 ⟨f, 0, none⟩ 0 cap [] (by simp) (fun j x hx => by cases hx) (fun x hx => by cases hx) (by omega) (by rw [hz1, k5]; simpa using k3)
        rw [List.append_nil]
        have e : (cur'.toList.take (l.length * i0.size) ++ ([] : List Value) ++ cur'.toList.drop (l.length * i0.size + ([] : List Value).length)).toArray = cur' := by apply Array.ext'; simp
        rw [e] at hr
        refine ⟨_, _, hr, OwnI.of (setRow_heap w f' cur' _ _ _ k2) k3 k4 k5 k6, .inl rfl, ⟨rfl, rfl, rfl, by simp [World.setRow], fun b _ hb => setRow_other w f' b _ fun e => hb (by rw [e]; rfl)⟩⟩
    · obtain ⟨v', w', hr, ho, hg, hat⟩ := run_append_at (P := Tryz.prog) w 0 35 ty 3 i0 (.int .i64 0) 1 8 uInts hi0 hz0 hz1 hz2 rfl (by decide) v l.length (intsL l) hv ⟨f, 0, none⟩ m.length cap (intsL m) (by rw [intsL_len, Nat.mul_one]) hnews hone (by unfold maxLen; omega) (by omega) (Nat.zero_le _) (by cases m with | nil => exact absurd rfl hm | cons x m => simp)
      refine ⟨v', w', hr, ?_, hat, hg⟩
      unfold OwnI
      rw [List.length_append, intsL_app]
      exact ho
theorem wp_app_ints {w : World} {o : Oper} {a : Act} {K : Act → World → Prop} {Q : Exit → Act → World → Prop} (s x : Operand)
    (ho : o.op = .call { callee := .builtin .append, args := #[s, x], argTypes := #[35, 35] }) (v u : Value) (l m : List Nat) (hs : a.eval s = v) (hx : a.eval x = u) (hv : OwnI w v l) (hu : OwnI w u m) (hlen : l.length + m.length ≤ 1000)
    (h : ∀ v' w', OwnI w' v' (l ++ m) → (v'.ownBlock = v.ownBlock ∨ v'.ownBlock = some w.heap.size) → w.grownBy w' v.ownBlock → K (a.put o.dst v') w') : o.wp Tryz.prog a w K Q := by
  obtain ⟨v', w', hr, h1, h2, h3⟩ := app_ints w o.type v u l m hv hu hlen
  unfold Oper.wp execOp
  simp only [ho, resolve, invoke, builtin, Sem.run_bind, Sem.run_pure, Result.andThen_ok, List.map_toArray, List.map_cons, List.map_nil, hs, hx, hr]
  exact h v' w' h1 h2 h3
theorem made_ints10 (n : Nat) : madeCells #[.int .i64 0] n = (intsL (List.replicate n 0)).toArray := by
  refine Array.ext (by simp [intsL, madeCells]) fun i h1 h2 => ?_
  simp [intsL, madeCells, Nat.mod_one]
theorem make_int10 (n : Nat) (hn : n < 2199023255552) (u : World) : (Instr.makeSlice 35 (.int .i64 (n : Int)) (.int .i64 (n : Int))).run Tryz.prog u =
    .ok (.slice (some ⟨u.heap.size, 0, none⟩) n n) (u.alloc (.cells (intsL (List.replicate n 0)).toArray 3)) := by
  obtain ⟨i0, hi, hz0, hz1, hz2⟩ := info_parts infoI10
  have h := run_make (P := Tryz.prog) u 35 3 i0 _ uInts hi hz0 .i64 .i64 (n : Int) (n : Int) (by omega) (Int.le_refl _) (by rw [hz2]; omega) (by omega)
  rw [← made_ints10]
  simpa [hz1, Value.cells] using h
theorem own_shape {w : World} {v : Value} {l : List Nat} (h : OwnI w v l) : ∃ a n c, v = .slice a n c := by
  rcases h.form with ⟨rfl, _⟩ | ⟨f, cap, cur, rfl, _⟩
  · exact ⟨_, _, _, rfl⟩
  · exact ⟨_, _, _, rfl⟩
theorem tld_len {e : Ex} {s : List UInt8} {H : Nat → Prop} {l l' : List Nat} (h : Tld e s H l l') : l'.length ≤ s.length + 1 := places_len h.1 fun i hi => ((h.2 i).1 hi).1.1
def AltMid (s : List UInt8) (a b : Ex) (H : Nat → Prop) (l : List Nat) (g k kc ga f : Nat) (sl tv : Value) (Fa : Nat → Prop) (w : World) (y : Value) (W : World) : Prop :=
  ∃ l1 Fa' tv1, OwnI W y (newL (EndsP (.alt a b) s H) l1) ∧ Tld a s H l l1 ∧ PartAt s a (Also H l) W ga Fa' ∧ (∀ z, Fa' z → Fa z ∨ w.heap.size ≤ z) ∧ (∀ z, y.ownBlock = some z → ¬ Fa' z ∧ (z = f ∨ w.heap.size ≤ z)) ∧
    W.heap[g]? = some (.cells (#[.int .u8 5, .int .u64 Ws.nil.a, .int .u64 Ws.nil.b, .int .u64 Ws.nil.c, .int .u64 Ws.nil.d, sl, .slice (some ⟨k, 0, none⟩) 2 kc, tv1]) 75) ∧ W.heap[k]? = w.heap[k]? ∧ ToldV W tv1 (Also (EndsP (.alt a b) s H) l1) ∧ (tv1.ownBlock = tv.ownBlock ∨ ∃ t, tv1.ownBlock = some t ∧ w.heap.size ≤ t) ∧ (∀ t, tv1.ownBlock = some t → ¬ Fa' t ∧ y.ownBlock ≠ some t) ∧
    Fm (fun z => z = g ∨ Fa z ∨ z = f ∨ tv.ownBlock = some z) w W
def AltMid2 (s : List UInt8) (a b : Ex) (H : Nat → Prop) (l l1 : List Nat) (g k kc gb go : Nat) (sl tv1 : Value) (Fb : Nat → Prop) (m : World) (y : Value) (W : World) : Prop :=
  ∃ l2 Fb' tv2, OwnI W y (newL (Also (EndsP (.alt a b) s H) l1) l2) ∧ Tld b s H l l2 ∧ PartAt s b (Also H l) W gb Fb' ∧ (∀ z, Fb' z → Fb z ∨ m.heap.size ≤ z) ∧ (∀ z, y.ownBlock = some z → z = go ∨ m.heap.size ≤ z) ∧
    W.heap[g]? = some (.cells (#[.int .u8 5, .int .u64 Ws.nil.a, .int .u64 Ws.nil.b, .int .u64 Ws.nil.c, .int .u64 Ws.nil.d, sl, .slice (some ⟨k, 0, none⟩) 2 kc, tv2]) 75) ∧ W.heap[k]? = m.heap[k]? ∧ ToldV W tv2 (Also (Also (EndsP (.alt a b) s H) l1) l2) ∧ (tv2.ownBlock = tv1.ownBlock ∨ ∃ t, tv2.ownBlock = some t ∧ m.heap.size ≤ t) ∧ (∀ t, tv2.ownBlock = some t → ¬ Fb' t) ∧
    Fm (fun z => z = g ∨ Fb z ∨ z = go ∨ tv1.ownBlock = some z) m W
set_option maxRecDepth 100000 in
set_option maxHeartbeats 4000000 in
theorem malt_any (s : ByteArray) (hs : s.size ≤ 60) (a b : Ex) (KA : EndsK s a) (KB : EndsK s b) (H : Nat → Prop) (l : List Nat) (w : World) (g : Nat) (F : Nat → Prop) (v : Value) (hp : PartAt s.data.toList (.alt a b) H w g F) (hv : OwnI w v l) (hvF : ∀ f, v.ownBlock = some f → ¬ F f) (ha : Ask s.data.toList H l) (hne : l ≠ []) :
    Calls Tryz.prog 33 #[.pointer (some ⟨g, 0, none⟩), .string s, v] w (EndsPostP s.data.toList (.alt a b) H l v g F w) := by
  rcases id hv.form with ⟨_, h0⟩ | ⟨f, cap, fc, rfl, -, -, -, -, -⟩
  · exact absurd h0 hne
  have hsz : s.data.toList.length ≤ 60 := by rw [Array.length_toList]; exact hs
  have hll : l.length ≤ 61 := by have := places_len ha.1 fun i hi => (ha.2 i hi).1; omega
  have hfl0 : f < w.heap.size := hv.lt (f := f) rfl
  have hfF : ¬ F f := hvF f rfl
  obtain ⟨n, hn⟩ : ∃ n, n = l.length := ⟨_, rfl⟩
  obtain ⟨go, hgo⟩ : ∃ go, go = w.heap.size := ⟨_, rfl⟩
  obtain ⟨xs, hxs⟩ : ∃ xs, xs = intsL l := ⟨_, rfl⟩
  obtain ⟨zs, hzs⟩ : ∃ zs, zs = (intsL (List.replicate n 0)).toArray := ⟨_, rfl⟩
  have hzl : zs.size = n := by rw [hzs]; simp [intsL]
  have hxl : xs.length = n := by rw [hxs, intsL_len, hn]
  obtain ⟨W, hW⟩ : ∃ W, W = (w.alloc (.cells zs 3)).setRow go (zs.toList.take 0 ++ (xs ++ zs.toList.drop (0 + xs.length))).toArray := ⟨_, rfl⟩
  have hbW : Below w.heap.size w W := by rw [hW]; exact below_setRow ((Below.refl _ w).alloc (Nat.le_refl _) _) (by omega) _
  have hoW : OwnI W (.slice (some ⟨go, 0, none⟩) n n) l := by
    have h1 : W.heap[go]? = some (.cells xs.toArray 3) := by
      have h2 := setRow_heap (w.alloc (.cells zs 3)) go zs (zs.toList.take 0 ++ (xs ++ zs.toList.drop (0 + xs.length))).toArray _ _ (by rw [hgo]; exact blk_new w _)
      rw [hW, h2]
      congr 2
      simp [hxl, ← hzl]
    have := OwnI.of (l := l) h1 (by omega : l.length ≤ n) (by unfold maxLen; omega) (by simpa using hxl) (by rw [hxs]; simp [← intsL_len l])
    rw [← hn] at this
    exact this
  have hgoW : go < W.heap.size := hoW.lt rfl
  have hmk := make_int10 n (by omega)
  rw [← hzs] at hmk
  have hsrc : ∀ j x, xs[j]? = some x → (w.alloc (.cells zs 3)).cell? ((⟨f, 0, none⟩ : Addr).add j) = some x := by
    intro j x hx
    rw [hxs] at hx
    obtain ⟨hj, hx2⟩ := List.getElem?_eq_some_iff.1 hx
    rw [intsL_len] at hj
    rw [Go.WideShapes.add_plain, Nat.zero_add, ((Below.refl _ w).alloc (Nat.le_refl _) _).cell (p := ⟨f, j, none⟩) hfl0, hv.cell j hj, ← hx2]
    simp [intsL]
  have hone : ∀ x ∈ xs, x.oneCell' = true := by
    intro x hx
    rw [hxs] at hx
    obtain ⟨_, _, rfl⟩ := List.mem_map.1 hx
    rfl
  have hgoF : ¬ F go := fun h => by have := hp.lt go h; omega
  have hfgo : f ≠ go := by omega
  have hpW := hp.below hbW
  have hvW := hv.below hbW
  have hfl : f < W.heap.size := hvW.lt (f := f) rfl
  have SRC := Lib.hid hsrc
  have ONE := Lib.hid hone
  have HGZ := Lib.hid (show (w.alloc (.cells zs 3)).heap[go]? = some (.cells zs 3) from by rw [hgo]; exact blk_new w _)
  have hfit : 0 + xs.length ≤ zs.size := by omega
  have hmin : xs.length = Nat.min n n := by rw [hxl]; exact (Nat.min_self n).symm
  have hF0 : ∀ z, F z → z < w.heap.size := hp.lt
  rw [← hn] at hvW ⊢
  obtain ⟨hgF, hFl, tv, k, kc, ga, gb, Fa, Fb, ⟨sl, hg⟩, hP, hkF, hkg, hA, hB, sa, sb, hT, st⟩ := hpW
  clear hp hv hvF hzs hsrc hone hxs hne hn
  have hgl : g < W.heap.size := hFl g hgF
  have hkl : k < W.heap.size := hFl k hkF
  have hfg : f ≠ g := fun e => hfF (by rw [e]; exact hgF)
  have hfk : f ≠ k := fun e => hfF (by rw [e]; exact hkF)
  have hgg : go ≠ g := fun e => hgoF (by rw [e]; exact hgF)
  have hgk : go ≠ k := fun e => hgoF (by rw [e]; exact hkF)
  have htl : ∀ t, tv.ownBlock = some t → t < W.heap.size := fun t ht => hT.lt ht
  have hC0 : ∀ X : World, ((∃ tv', X.heap[g]? = some (.cells (#[.int .u8 5, .int .u64 Ws.nil.a, .int .u64 Ws.nil.b, .int .u64 Ws.nil.c, .int .u64 Ws.nil.d, sl, .slice (some ⟨k, 0, none⟩) 2 kc, tv']) 75)) ∧ X.heap[k]? = W.heap[k]?) → X.cell? ⟨g, 6, none⟩ = some (.slice (some ⟨k, 0, none⟩) 2 kc) ∧ X.cell? ⟨k, 0, none⟩ = some (.pointer (some ⟨ga, 0, none⟩)) ∧ X.cell? ⟨k, 1, none⟩ = some (.pointer (some ⟨gb, 0, none⟩)) := fun X ⟨⟨tv', h1⟩, h2⟩ =>
    ⟨by rw [Lib.cell_of_heap h1]; rfl, (hP.go h2).cell 0 (by simp), (hP.go h2).cell 1 (by simp)⟩
  have KA0 : ∀ x, Below W.heap.size W x → Calls Tryz.prog 21 #[.pointer (some ⟨ga, 0, none⟩), .string s, .slice (some ⟨f, 0, none⟩) n cap] x fun e w2 => ∃ y, e = .returned y ∧ EndsPostP s.data.toList a H l (.slice (some ⟨f, 0, none⟩) n cap) ga Fa W (.returned y) w2 ∧ ((∃ tv', w2.heap[g]? = some (.cells (#[.int .u8 5, .int .u64 Ws.nil.a, .int .u64 Ws.nil.b, .int .u64 Ws.nil.c, .int .u64 Ws.nil.d, sl, .slice (some ⟨k, 0, none⟩) 2 kc, tv']) 75)) ∧ w2.heap[k]? = W.heap[k]?) := by
    intro x hx
    refine (KA H l x ga Fa (.slice (some ⟨f, 0, none⟩) n cap) (hA.below hx) (hvW.below hx) (fun c hc h => by injection hc with hc; exact hfF (by rw [show f = c from hc]; exact (sa c h).1)) ha).mono fun e w2 h => ?_
    obtain ⟨y, rfl⟩ := h.ret
    have h' := h.pre hx
    refine ⟨y, rfl, h', ⟨tv, ?_⟩, ?_⟩
    · obtain ⟨_, _, _, _, _, _, _, _, _, hF⟩ := h'
      exact (hF.block g hgl fun e => e.elim (fun e => (sa g e).2.1 rfl) (fun e => by injection e with e; exact hfg e)).trans hg
    · obtain ⟨_, _, _, _, _, _, _, _, _, hF⟩ := h'
      exact hF.block k hkl fun e => e.elim (fun e => (sa k e).2.2.1 rfl) (fun e => by injection e with e; exact hfk e)
  have KD0 : ∀ y x, EndsPostP s.data.toList a H l (.slice (some ⟨f, 0, none⟩) n cap) ga Fa W (.returned y) x → Calls Tryz.prog 59 #[.pointer (some ⟨g, 7, none⟩), y] x fun e w2 => ∃ z, e = .returned z ∧ AltMid s.data.toList a b H l g k kc ga f sl tv Fa W z w2 ∧ ((∃ tv', w2.heap[g]? = some (.cells (#[.int .u8 5, .int .u64 Ws.nil.a, .int .u64 Ws.nil.b, .int .u64 Ws.nil.c, .int .u64 Ws.nil.d, sl, .slice (some ⟨k, 0, none⟩) 2 kc, tv']) 75)) ∧ w2.heap[k]? = W.heap[k]?) := by
    intro y x h
    obtain ⟨y', l1, Fa', e1, o1, n1, t1, p1, i1, m1⟩ := h
    injection e1 with e1
    subst e1
    have n1' : ∀ z, y.ownBlock = some z → ¬ Fa' z ∧ (z = f ∨ W.heap.size ≤ z) := fun z hz => ⟨(n1 z hz).1, (n1 z hz).2.imp (fun e => by injection e with e; exact e.symm) id⟩
    have hgx : x.heap[g]? = W.heap[g]? := m1.block g hgl fun e => e.elim (fun e => (sa g e).2.1 rfl) (fun e => by injection e with e; exact hfg e)
    have hTx : ToldV x tv (EndsP (.alt a b) s.data.toList H) := hT.go fun t ht => m1.block t (htl t ht) fun e => e.elim (fun e => (st t ht).2.2.2.1 e) (fun e => by injection e with e; exact hfF (by rw [show f = t from e]; exact (st t ht).1))
    refine (madd_any tv _ g 7 _ _ y l1 x (fun j hj => by have := ((t1.2 j).1 hj).1.1; omega) t1.1 (hgx.trans hg) rfl hTx (fun e => (st g e).2.1 rfl) o1 (fun e => by rcases (n1' g e).2 with h | h <;> omega) (fun t ht e => by rcases (n1' t e).2 with h | h; exact hfF (by rw [← h]; exact (st t ht).1); have := htl t ht; omega)).mono ?_
    rintro e w2 ⟨z, rfl, oz, ez, tv1, a1, a2, a3, a4⟩
    have hFa : ∀ z, Fa' z → z ≠ g ∧ z ≠ k := fun z hz => by
      rcases i1 z hz with h | h
      · exact ⟨(sa z h).2.1, (sa z h).2.2.1⟩
      · omega
    have htF : ∀ t, tv.ownBlock = some t → ¬ Fa' t := fun t ht h => by
      rcases i1 t h with h | h
      · exact (st t ht).2.2.2.1 h
      · have := htl t ht; omega
    have hyt : ∀ t, tv.ownBlock = some t → y.ownBlock ≠ some t := fun t ht e => by
      rcases (n1' t e).2 with h | h
      · exact hfF (by rw [← h]; exact (st t ht).1)
      · have := htl t ht; omega
    have hkw : w2.heap[k]? = W.heap[k]? := (a4.block k (Nat.lt_of_lt_of_le hkl m1.size) fun e => by
      rcases e with e | e | e
      · exact hkg e
      · rcases (n1' k e).2 with h | h <;> omega
      · exact (st k e).2.2.1 rfl).trans (m1.block k hkl fun e => e.elim (fun e => (sa k e).2.2.1 rfl) (fun e => by injection e with e; exact hfk e))
    refine ⟨z, rfl, ⟨l1, Fa', tv1, oz, t1, p1.fm a4 fun q hq e => ?_, i1, fun q hq => n1' q (by rw [← ez]; exact hq), a1, hkw, a2, ?_, fun t ht => ?_, ?_⟩, ⟨tv1, a1⟩, hkw⟩
    · rcases e with e | e | e
      · exact (hFa q hq).1 e
      · exact (n1 q e).1 hq
      · exact htF q e hq
    · rcases a3 with h | ⟨t, h, h'⟩
      · exact .inl h
      · exact .inr ⟨t, h, Nat.le_trans m1.size h'⟩
    · rw [ez]
      rcases a3 with h | ⟨t', h, h'⟩
      · rw [h] at ht; exact ⟨htF t ht, hyt t ht⟩
      · rw [h] at ht
        injection ht with ht
        subst ht
        exact ⟨fun h2 => by have := p1.lt t' h2; omega, fun h2 => by have := o1.lt h2; omega⟩
    · refine (m1.mono fun q _ hq => ?_).then a4 fun q hq h => ?_
      · rcases hq with h | h
        · exact .inr (.inl h)
        · injection h with h; exact .inr (.inr (.inl h.symm))
      · rcases h with h | h | h
        · exact .inl h
        · rcases (n1' q h).2 with h2 | h2
          · exact .inr (.inr (.inl h2))
          · omega
        · exact .inr (.inr (.inr h))
  have KA1 := Lib.hid KA0
  have KD1 := Lib.hid KD0
  have CC := Lib.hid hC0
  have G0S := Lib.hid fun (y : Value) (x : World) (h : EndsPostP s.data.toList a H l (.slice (some ⟨f, 0, none⟩) n cap) ga Fa W (.returned y) x) => show ∃ p n c, y = .slice p n c from by
    obtain ⟨y', l1, Fa', e1, o1, _⟩ := h
    injection e1 with e1
    rw [e1]
    exact own_shape o1
  have NEXT : ∀ (y8 : Value) (W1 : World), AltMid s.data.toList a b H l g k kc ga f sl tv Fa W y8 W1 → Hid (∃ l1 tv1, (∀ x, Below W1.heap.size W1 x → Calls Tryz.prog 21 #[.pointer (some ⟨gb, 0, none⟩), .string s, .slice (some ⟨go, 0, none⟩) n n] x fun e w2 => ∃ y, e = .returned y ∧ EndsPostP s.data.toList b H l (.slice (some ⟨go, 0, none⟩) n n) gb Fb W1 (.returned y) w2 ∧ ((∃ tv', w2.heap[g]? = some (.cells (#[.int .u8 5, .int .u64 Ws.nil.a, .int .u64 Ws.nil.b, .int .u64 Ws.nil.c, .int .u64 Ws.nil.d, sl, .slice (some ⟨k, 0, none⟩) 2 kc, tv']) 75)) ∧ w2.heap[k]? = W.heap[k]?)) ∧
      (∀ y x, EndsPostP s.data.toList b H l (.slice (some ⟨go, 0, none⟩) n n) gb Fb W1 (.returned y) x → Calls Tryz.prog 59 #[.pointer (some ⟨g, 7, none⟩), y] x fun e w2 => ∃ z, e = .returned z ∧ AltMid2 s.data.toList a b H l l1 g k kc gb go sl tv1 Fb W1 z w2 ∧ ((∃ tv', w2.heap[g]? = some (.cells (#[.int .u8 5, .int .u64 Ws.nil.a, .int .u64 Ws.nil.b, .int .u64 Ws.nil.c, .int .u64 Ws.nil.d, sl, .slice (some ⟨k, 0, none⟩) 2 kc, tv']) 75)) ∧ w2.heap[k]? = W.heap[k]?)) ∧
      (∀ (o : Oper) (y : Value) (x : World), AltMid2 s.data.toList a b H l l1 g k kc gb go sl tv1 Fb W1 y x → ∀ (ac : Act) (K : Act → World → Prop) (Q : Exit → Act → World → Prop), o.op = .call { callee := .builtin .append, args := #[.tmp 28, .tmp 41], argTypes := #[35, 35] } → ac.eval (.tmp 28) = y8 → ac.eval (.tmp 41) = y →
        (∀ z w2, EndsPostP s.data.toList (.alt a b) H l (.slice (some ⟨f, 0, none⟩) n cap) g F w (.returned z) w2 → ((∃ tv', w2.heap[g]? = some (.cells (#[.int .u8 5, .int .u64 Ws.nil.a, .int .u64 Ws.nil.b, .int .u64 Ws.nil.c, .int .u64 Ws.nil.d, sl, .slice (some ⟨k, 0, none⟩) 2 kc, tv']) 75)) ∧ w2.heap[k]? = W.heap[k]?) → K (ac.put o.dst z) w2) → o.wp Tryz.prog ac x K Q) ∧ ((∃ tv', W1.heap[g]? = some (.cells (#[.int .u8 5, .int .u64 Ws.nil.a, .int .u64 Ws.nil.b, .int .u64 Ws.nil.c, .int .u64 Ws.nil.d, sl, .slice (some ⟨k, 0, none⟩) 2 kc, tv']) 75)) ∧ W1.heap[k]? = W.heap[k]?)) := by
    intro y8 W1 hm
    obtain ⟨l1, Fa', tv1, o8, t1, p1, i1, n1, hg1, hk1, hT1, b1, c1, m1⟩ := hm
    have hWs := m1.size
    have hB1 : PartAt s.data.toList b H W1 gb Fb := hB.fm m1 fun z hz e => by
      rcases e with e | e | e | e
      · exact (sb z hz).2.1 e
      · exact (sa z e).2.2.2 hz
      · exact hfF (by rw [← e]; exact (sb z hz).1)
      · exact (st z e).2.2.2.2 hz
    have ho1 : OwnI W1 (.slice (some ⟨go, 0, none⟩) n n) l := hoW.fm m1 fun z hz e => by
      injection hz with hz
      subst hz
      rcases e with e | e | e | e
      · exact hgg e
      · exact hgoF (sa go e).1
      · exact hfgo e.symm
      · exact hgoF (st go e).1
    have ht1 : ∀ t, tv1.ownBlock = some t → ¬ Fb t ∧ t ≠ go ∧ t ≠ g ∧ t ≠ k ∧ t < W1.heap.size := fun t ht => by
      have hl := hT1.lt ht
      rcases b1 with h | ⟨t', h, h'⟩
      · rw [h] at ht
        obtain ⟨s1, s2, s3, s4, s5⟩ := st t ht
        exact ⟨s5, fun e => hgoF (by rw [← e]; exact s1), s2, s3, hl⟩
      · rw [h] at ht
        injection ht with ht
        subst ht
        exact ⟨fun e => by have := hFl t' (sb t' e).1; omega, by omega, by omega, by omega, hl⟩
    have hgl1 : g < W1.heap.size := by omega
    have hkl1 : k < W1.heap.size := by omega
    refine Lib.hid ⟨l1, tv1, fun x hx => ?_, fun y x h => ?_, fun o y x h ac K Q ho e28 e41 hK => ?_, ⟨tv1, hg1⟩, hk1⟩
    · refine (KB H l x gb Fb (.slice (some ⟨go, 0, none⟩) n n) (hB1.below hx) (ho1.below hx) (fun c hc h => by injection hc with hc; exact hgoF (by rw [show go = c from hc]; exact (sb c h).1)) ha).mono fun e w2 h => ?_
      obtain ⟨y, rfl⟩ := h.ret
      have h' := h.pre hx
      refine ⟨y, rfl, h', ⟨tv1, ?_⟩, ?_⟩
      · obtain ⟨_, _, _, _, _, _, _, _, _, hF⟩ := h'
        exact (hF.block g hgl1 fun e => e.elim (fun e => (sb g e).2.1 rfl) (fun e => by injection e with e; exact hgg e)).trans hg1
      · obtain ⟨_, _, _, _, _, _, _, _, _, hF⟩ := h'
        exact (hF.block k hkl1 fun e => e.elim (fun e => (sb k e).2.2 rfl) (fun e => by injection e with e; exact hgk e)).trans hk1
    · obtain ⟨y', l2, Fb', e1, o2, n2, t2, p2, i2, m2⟩ := h
      injection e1 with e1
      subst e1
      have n2' : ∀ z, y.ownBlock = some z → ¬ Fb' z ∧ (z = go ∨ W1.heap.size ≤ z) := fun z hz => ⟨(n2 z hz).1, (n2 z hz).2.imp (fun e => by injection e with e; exact e.symm) id⟩
      have hgx : x.heap[g]? = W1.heap[g]? := m2.block g hgl1 fun e => e.elim (fun e => (sb g e).2.1 rfl) (fun e => by injection e with e; exact hgg e)
      have hTx : ToldV x tv1 (Also (EndsP (.alt a b) s.data.toList H) l1) := hT1.go fun t ht => m2.block t (hT1.lt ht) fun e => e.elim (fun e => (ht1 t ht).1 e) (fun e => by injection e with e; exact (ht1 t ht).2.1 e.symm)
      have hyt : ∀ t, tv1.ownBlock = some t → y.ownBlock ≠ some t := fun t ht e => by
        have := ht1 t ht
        rcases (n2' t e).2 with h | h <;> omega
      refine (madd_any tv1 _ g 7 _ _ y l2 x (fun j hj => by have := ((t2.2 j).1 hj).1.1; omega) t2.1 (hgx.trans hg1) rfl hTx (fun e => (ht1 g e).2.2.1 rfl) o2 (fun e => by rcases (n2' g e).2 with h | h <;> omega) hyt).mono ?_
      rintro e w2 ⟨z, rfl, oz, ez, tv2, a1, a2, a3, a4⟩
      have hFb : ∀ z, Fb' z → z ≠ g ∧ z ≠ k := fun z hz => by
        rcases i2 z hz with h | h
        · exact (sb z h).2
        · omega
      have htF : ∀ t, tv1.ownBlock = some t → ¬ Fb' t := fun t ht h => by
        have := ht1 t ht
        rcases i2 t h with h | h
        · exact this.1 h
        · omega
      have hkw : w2.heap[k]? = W1.heap[k]? := (a4.block k (Nat.lt_of_lt_of_le hkl1 m2.size) fun e => by
        rcases e with e | e | e
        · exact hkg e
        · rcases (n2' k e).2 with h | h <;> omega
        · exact (ht1 k e).2.2.2.1 rfl).trans (m2.block k hkl1 fun e => e.elim (fun e => (sb k e).2.2 rfl) (fun e => by injection e with e; exact hgk e))
      refine ⟨z, rfl, ⟨l2, Fb', tv2, oz, t2, p2.fm a4 fun q hq e => ?_, i2, fun q hq => (n2' q (by rw [← ez]; exact hq)).2, a1, hkw, a2, ?_, fun t ht => ?_, ?_⟩, ⟨tv2, a1⟩, hkw.trans hk1⟩
      · rcases e with e | e | e
        · exact (hFb q hq).1 e
        · exact (n2 q e).1 hq
        · exact htF q e hq
      · rcases a3 with h | ⟨t, h, h'⟩
        · exact .inl h
        · exact .inr ⟨t, h, Nat.le_trans m2.size h'⟩
      · rcases a3 with h | ⟨t', h, h'⟩
        · rw [h] at ht; exact htF t ht
        · rw [h] at ht
          injection ht with ht
          subst ht
          exact fun h2 => by have := p2.lt t' h2; omega
      · refine (m2.mono fun q _ hq => ?_).then a4 fun q hq h => ?_
        · rcases hq with h | h
          · exact .inr (.inl h)
          · injection h with h; exact .inr (.inr (.inl h.symm))
        · rcases h with h | h | h
          · exact .inl h
          · rcases (n2' q h).2 with h2 | h2
            · exact .inr (.inr (.inl h2))
            · omega
          · exact .inr (.inr (.inr h))
    · obtain ⟨l2, Fb', tv2, o2, t2, p2, i2, n2, hg2, hk2, hT2, b2, c2, m2⟩ := h
      obtain ⟨tld, hst⟩ := tld_alt t1 t2
      have h8l : ∀ q, y8.ownBlock = some q → q < W1.heap.size := fun q hq => o8.lt hq
      have h8 : ∀ q, y8.ownBlock = some q → ¬ Fa' q ∧ q ≠ g ∧ q ≠ k ∧ q ≠ go ∧ ¬ Fb q ∧ ¬ F q := fun q hq => by
        have h1 := n1 q hq
        rcases h1.2 with h | h
        · exact ⟨h1.1, by omega, by omega, by omega, fun e => hfF (by rw [← h]; exact (sb q e).1), fun e => hfF (by rw [← h]; exact e)⟩
        · exact ⟨h1.1, by omega, by omega, by omega, fun e => by have := hFl q (sb q e).1; omega, fun e => by have := hFl q e; omega⟩
      have o8x : OwnI x y8 (newL (EndsP (.alt a b) s.data.toList H) l1) := o8.fm m2 fun q hq e => by
        have := h8 q hq
        rcases e with e | e | e | e
        · exact this.2.1 e
        · exact this.2.2.2.2.1 e
        · exact this.2.2.2.1 e
        · exact (c1 q e).2 hq
      have hxs := m2.size
      refine wp_app_ints (.tmp 28) (.tmp 41) ho y8 y _ _ e28 e41 o8x o2 (by have h1 := newL_len (EndsP (.alt a b) s.data.toList H) l1; have h2 := newL_len (Also (EndsP (.alt a b) s.data.toList H) l1) l2; have h3 := tld_len t1; have h4 := tld_len t2; omega) fun z w2 hz hat hgr => ?_
      have hws := hgr.size
      have h8b : ∀ q, y8.ownBlock = some q → ¬ Fb' q := fun q hq h => by
        rcases i2 q h with h | h
        · exact (h8 q hq).2.2.2.2.1 h
        · have := h8l q hq; omega
      have h8t : ∀ t, tv2.ownBlock = some t → y8.ownBlock ≠ some t ∧ ¬ Fa' t ∧ t ≠ g ∧ t ≠ k := fun t ht => by
        rcases b2 with h | ⟨t', h, h'⟩
        · rw [h] at ht
          have := ht1 t ht
          exact ⟨(c1 t ht).2, (c1 t ht).1, this.2.2.1, this.2.2.2.1⟩
        · rw [h] at ht
          injection ht with ht
          subst ht
          exact ⟨fun e => by have := h8l t' e; omega, fun e => by have := p1.lt t' e; omega, by omega, by omega⟩
      have keep : ∀ q, q < x.heap.size → y8.ownBlock ≠ some q → w2.heap[q]? = x.heap[q]? := fun q hq hn => hgr.block q hq fun e => hn e.symm
      have hgw : w2.heap[g]? = x.heap[g]? := keep g (by omega) fun e => (h8 g e).2.1 rfl
      have hkw : w2.heap[k]? = x.heap[k]? := keep k (by omega) fun e => (h8 k e).2.2.1 rfl
      have p1x : PartAt s.data.toList a (Also H l) x ga Fa' := p1.fm m2 fun q hq e => by
        rcases e with e | e | e | e
        · rcases i1 q hq with h | h
          · exact (sa q h).2.1 e
          · omega
        · rcases i1 q hq with h | h
          · exact (sa q h).2.2.2 e
          · have := hFl q (sb q e).1; omega
        · rcases i1 q hq with h | h
          · exact hgoF (by rw [← e]; exact (sa q h).1)
          · omega
        · exact (c1 q e).1 hq
      have p1w : PartAt s.data.toList a (Also H l) w2 ga Fa' := p1x.go _ hws fun q hq => keep q (p1x.lt q hq) fun e => (h8 q e).1 hq
      have p2w : PartAt s.data.toList b (Also H l) w2 gb Fb' := p2.go _ hws fun q hq => keep q (p2.lt q hq) fun e => h8b q e hq
      have hT2w : ToldV w2 tv2 (EndsP (.alt a b) s.data.toList (Also H l)) := by rw [← hst]; exact hT2.go fun t ht => keep t (hT2.lt ht) (h8t t ht).1
      have hPw : Ptrs w2 k [ga, gb] := hP.go (hkw.trans (hk2.trans hk1))
      have hgw2 : w2.heap[g]? = some (.cells (#[.int .u8 5, .int .u64 Ws.nil.a, .int .u64 Ws.nil.b, .int .u64 Ws.nil.c, .int .u64 Ws.nil.d, sl, .slice (some ⟨k, 0, none⟩) 2 kc, tv2]) 75) := hgw.trans hg2
      have hFw : Fm (fun q => F q ∨ (Value.slice (some ⟨f, 0, none⟩) n cap).ownBlock = some q) w w2 := by
        have hww := hbW.size
        refine ⟨hgr.os.trans (m2.os.trans (m1.os.trans hbW.os)), hgr.tape.trans (m2.tape.trans (m1.tape.trans hbW.tape)), hgr.output.trans (m2.output.trans (m1.output.trans hbW.output)), by omega, fun q hq hn => ?_⟩
        have hqF : ¬ F q := fun h => hn (.inl h)
        have hqf : q ≠ f := fun h => hn (.inr (by rw [h]; rfl))
        refine (keep q (by omega) fun e => ?_).trans ((m2.block q (by omega) fun e => ?_).trans ((m1.block q (by omega) fun e => ?_).trans (hbW.block q hq)))
        · rcases (n1 q e).2 with h | h
          · exact hqf h
          · omega
        · rcases e with e | e | e | e
          · exact hqF (by rw [e]; exact hgF)
          · exact hqF (sb q e).1
          · omega
          · rcases b1 with h | ⟨t', h, h'⟩
            · rw [h] at e; exact hqF (st q e).1
            · rw [h] at e; injection e with e; omega
        · rcases e with e | e | e | e
          · exact hqF (by rw [e]; exact hgF)
          · exact hqF (sa q e).1
          · exact hqf e
          · exact hqF (st q e).1
      refine hK z w2 ⟨z, _, fun q => q = g ∨ q = k ∨ Fa' q ∨ Fb' q ∨ tv2.ownBlock = some q, rfl, hz, fun q hq => ⟨?_, ?_⟩, tld, ⟨.inl rfl, fun q hq => ?_, tv2, k, kc, ga, gb, Fa', Fb', ⟨sl, hgw2⟩, hPw, .inr (.inl rfl), hkg, p1w, p2w, fun q hq => ⟨.inr (.inr (.inl hq)), ?_, ?_, fun hq2 => ?_⟩, fun q hq => ⟨.inr (.inr (.inr (.inl hq))), ?_⟩, hT2w, fun t ht => ⟨.inr (.inr (.inr (.inr ht))), (h8t t ht).2.2.1, (h8t t ht).2.2.2, (h8t t ht).2.1, c2 t ht⟩⟩, fun q hq => ?_, hFw⟩ ⟨⟨tv2, hgw2⟩, hkw.trans (hk2.trans hk1)⟩
      · intro h
        rcases hat with e | e
        · rw [e] at hq
          have h1 := h8 q hq
          rcases h with h | h | h | h | h
          · exact h1.2.1 h
          · exact h1.2.2.1 h
          · exact h1.1 h
          · exact h8b q hq h
          · exact (h8t q h).1 hq
        · rw [e] at hq
          injection hq with hq
          rcases h with h | h | h | h | h
          · omega
          · omega
          · have := p1x.lt q h; omega
          · have := p2.lt q h; omega
          · have := hT2.lt h; omega
      · have hww := hbW.size
        rcases hat with e | e
        · rw [e] at hq
          rcases (n1 q hq).2 with h | h
          · exact .inl (by rw [h]; rfl)
          · exact .inr (by omega)
        · rw [e] at hq
          injection hq with hq
          exact .inr (by omega)
      · rcases hq with h | h | h | h | h
        · omega
        · omega
        · exact p1w.lt q h
        · exact p2w.lt q h
        · exact hT2w.lt h
      · rcases i1 q hq with h | h
        · exact (sa q h).2.1
        · omega
      · rcases i1 q hq with h | h
        · exact (sa q h).2.2.1
        · omega
      · rcases i2 q hq2 with h | h
        · rcases i1 q hq with h2 | h2
          · exact (sa q h2).2.2.2 h
          · have := hFl q (sb q h).1; omega
        · have := p1.lt q hq; omega
      · rcases i2 q hq with h | h
        · exact (sb q h).2
        · exact ⟨by omega, by omega⟩
      · have hww := hbW.size
        rcases hq with h | h | h | h | h
        · exact .inl (by rw [h]; exact hgF)
        · exact .inl (by rw [h]; exact hkF)
        · rcases i1 q h with h2 | h2
          · exact .inl (sa q h2).1
          · exact .inr (by omega)
        · rcases i2 q h with h2 | h2
          · exact .inl (sb q h2).1
          · exact .inr (by omega)
        · rcases b2 with e | ⟨t', e, h'⟩
          · rw [e] at h
            rcases b1 with e | ⟨t', e, h'⟩
            · rw [e] at h; exact .inl (st q h).1
            · rw [e] at h; injection h with h; exact .inr (by omega)
          · rw [e] at h; injection h with h; exact .inr (by omega)
  have HC1 := Lib.hid fun (x : World) (hx : Below W.heap.size W x) => hC0 x ⟨⟨tv, (hx.block g hgl).trans hg⟩, hx.block k hkl⟩
  have NX := Lib.hid NEXT
  clear NEXT hC0 KA0 KD0 hgF hFl hP hkF hA hB sa sb hT st htl hF0 hfF hgoF KA KB ha hvW hoW hg
  go_enter Tryz.func33, Tryz.ntmps33
  rw [hgo] at hW
  have HZ2 := Lib.hid (show (w.alloc (.cells zs 3)).heap[w.heap.size]? = some (.cells zs 3) from blk_new w _)
  have HGO := Lib.hid hgo
  have HWE := Lib.hid hW
  have HXL := Lib.hid hxl
  clear hgo hW hzl hxl
  go_wp2_with (refine wpList_copy_own rfl _ _ _ _ rfl 3 uInts sizeI10 w.heap.size 0 n n ⟨f, 0, none⟩ n cap rfl rfl zs _ HZ2.out xs hmin SRC.out hfit ONE.out ?_)
  rw [← HWE.out, ← HGO.out]
  clear HZ2 HGO HWE SRC ONE HGZ hfit hmin hmk
  simp only [Act.put, List.setIfInBounds_toArray, List.set_cons_succ, List.set_cons_zero]
  go_wp2_with fail
  refine wp_region_orderX [11, 12, 13] (fun i => if i = 11 then 2 else if i = 12 then 3 else if i = 13 then 4 else 1) (pvS [some (.pointer (some ⟨g, 0, none⟩)), some (.pointer (some ⟨g, 0, none⟩)), some (.pointer (some ⟨g, 7, none⟩)), some (.pointer (some ⟨g, 0, none⟩)), some (.pointer (some ⟨g, 0, none⟩)), some (.pointer (some ⟨g, 6, none⟩)), some (.slice (some ⟨k, 0, none⟩) 2 kc), some (.pointer (some ⟨k, 0, none⟩)), some (.pointer (some ⟨ga, 0, none⟩)), some (.string s), some (.slice (some ⟨f, 0, none⟩) n cap), none, none, none]) (pv [some (.pointer (some ⟨g, 0, none⟩)), some (.pointer (some ⟨g, 0, none⟩)), some (.pointer (some ⟨g, 7, none⟩)), some (.pointer (some ⟨g, 0, none⟩)), some (.pointer (some ⟨g, 0, none⟩)), some (.pointer (some ⟨g, 6, none⟩)), some (.slice (some ⟨k, 0, none⟩) 2 kc), some (.pointer (some ⟨k, 0, none⟩)), some (.pointer (some ⟨ga, 0, none⟩)), some (.string s), some (.slice (some ⟨f, 0, none⟩) n cap), none, none, none]) (fun X => Below W.heap.size W X) (fun X => X.cell? ⟨g, 6, none⟩ = some (.slice (some ⟨k, 0, none⟩) 2 kc) ∧ X.cell? ⟨k, 0, none⟩ = some (.pointer (some ⟨ga, 0, none⟩)) ∧ X.cell? ⟨k, 1, none⟩ = some (.pointer (some ⟨gb, 0, none⟩)))
    (fun m y X => (match m with
      | 0 => EndsPostP s.data.toList a H l (.slice (some ⟨f, 0, none⟩) n cap) ga Fa W (.returned y) X
      | _ => AltMid s.data.toList a b H l g k kc ga f sl tv Fa W y X) ∧ X.cell? ⟨g, 6, none⟩ = some (.slice (some ⟨k, 0, none⟩) 2 kc) ∧ X.cell? ⟨k, 0, none⟩ = some (.pointer (some ⟨ga, 0, none⟩)) ∧ X.cell? ⟨k, 1, none⟩ = some (.pointer (some ⟨gb, 0, none⟩)))
    (Below.refl _ _).drew HC1.out (fun m v X h => h.2) (fun X X2 h hb => h.trans (hb.mono h.size)) (fun _ _ _ h => h) (by kernel_rfl) (by kernel_rfl) ⟨?_, ?_, ?_, ?_, ?_, ?_, ?_, ?_, ?_, ?_, ?_, ?_, ?_, ?_, trivial⟩ ?_
  · intro a x K out get old hC hK
    rw [if_pos (wanted_none rfl)]
    have o0 : a.tmps[0]? = some (.pointer (some ⟨g, 0, none⟩)) := out 0 (by kernel_rfl)
    clear out get old
    go_simp
    exact hK _ rfl (fun _ => rfl)
  · intro a x K out get old hC hK
    rw [if_pos (wanted_none rfl)]
    obtain ⟨y15, hy15, rfl⟩ := get 0 _ _ rfl rfl (by kernel_rfl)
    clear out get old
    go_simp
    exact hK _ rfl (fun _ => rfl)
  · intro a x K out get old hC hK
    rw [if_pos (wanted_none rfl)]
    obtain ⟨y16, hy16, rfl⟩ := get 1 _ _ rfl rfl (by kernel_rfl)
    clear out get old
    go_simp
    exact hK _ rfl (fun _ => rfl)
  · intro a x K out get old hC hK
    rw [if_pos (wanted_none rfl)]
    have o0 : a.tmps[0]? = some (.pointer (some ⟨g, 0, none⟩)) := out 0 (by kernel_rfl)
    clear out get old
    go_simp
    exact hK _ rfl (fun _ => rfl)
  · intro a x K out get old hC hK
    rw [if_pos (wanted_none rfl)]
    obtain ⟨y18, hy18, rfl⟩ := get 3 _ _ rfl rfl (by kernel_rfl)
    clear out get old
    go_simp
    exact hK _ rfl (fun _ => rfl)
  · intro a x K out get old hC hK
    rw [if_pos (wanted_none rfl)]
    obtain ⟨y19, hy19, rfl⟩ := get 4 _ _ rfl rfl (by kernel_rfl)
    clear out get old
    go_simp
    exact hK _ rfl (fun _ => rfl)
  · intro a x K out get old hC hK
    rw [if_pos (wanted_none rfl)]
    obtain ⟨y20, hy20, rfl⟩ := get 5 _ _ rfl rfl (by kernel_rfl)
    clear out get old
    obtain ⟨d0, d1, d2⟩ := hC
    go_simp
    exact hK _ rfl (fun _ => rfl)
  · intro a x K out get old hC hK
    rw [if_pos (wanted_none rfl)]
    obtain ⟨y21, hy21, rfl⟩ := get 6 _ _ rfl rfl (by kernel_rfl)
    clear out get old
    go_simp
    exact hK _ rfl (fun _ => rfl)
  · intro a x K out get old hC hK
    rw [if_pos (wanted_none rfl)]
    obtain ⟨y22, hy22, rfl⟩ := get 7 _ _ rfl rfl (by kernel_rfl)
    clear out get old
    obtain ⟨d0, d1, d2⟩ := hC
    go_simp
    exact hK _ rfl (fun _ => rfl)
  · intro a x K out get old hC hK
    rw [if_pos (wanted_none rfl)]
    have o1 : a.tmps[1]? = some (.string s) := out 1 (by kernel_rfl)
    clear out get old
    go_simp
    exact hK _ rfl (fun _ => rfl)
  · intro a x K out get old hC hK
    rw [if_pos (wanted_none rfl)]
    have o2 : a.tmps[2]? = some (.slice (some ⟨f, 0, none⟩) n cap) := out 2 (by kernel_rfl)
    clear out get old
    go_simp
    exact hK _ rfl (fun _ => rfl)
  · intro a x K out get hJ hK
    rw [if_pos (wanted_none rfl)]
    obtain ⟨y23, hy23, rfl, -⟩ := get 8 _ _ rfl rfl (by kernel_rfl)
    obtain ⟨y24, hy24, rfl, -⟩ := get 9 _ _ rfl rfl (by kernel_rfl)
    obtain ⟨y25, hy25, rfl, -⟩ := get 10 _ _ rfl rfl (by kernel_rfl)
    clear out get
    have hx : Below W.heap.size W x := hJ
    go_simp
    refine (KA1.out x hx).mono ?_
    rintro e w2 ⟨y, e2, h2, h3⟩
    subst e2
    exact hK _ _ trivial ⟨h2, CC.out w2 h3⟩
  · intro a x K out get hJ hK
    rw [if_pos (wanted_none rfl)]
    obtain ⟨y17, hy17, rfl, -⟩ := get 2 _ _ rfl rfl (by kernel_rfl)
    obtain ⟨y26, hy26, hG, -⟩ := hJ
    clear out get
    obtain ⟨yp, yn, yc, rfl⟩ := G0S.out y26 x hG
    go_simp
    refine (KD1.out _ x hG).mono ?_
    rintro e w2 ⟨y, e2, h2, h3⟩
    subst e2
    exact hK _ _ trivial ⟨h2, CC.out w2 h3⟩
  · intro a x K out get hJ hK
    rw [if_pos (wanted_none rfl)]
    obtain ⟨y27, hy27, hG⟩ := hJ
    clear out get
    go_simp
    exact hK _ _ trivial hG
  refine ao_finX (isD := fun s => (decide (15 ≤ s) && decide (s ≤ 27)) || decide (s = 8)) 2 (some 8) rfl (by kernel_rfl) (by kernel_rfl) (by kernel_rfl) ?_
  intro f9 W1 hv hG hn
  have h8 := (hG 8 rfl).1
  clear hv hG hn
  obtain ⟨l1, tv1, kb, kd, kp, kc1⟩ := (NX.out _ _ h8).out
  have h8s : ∃ p q c, f9 8 = .slice p q c := by
    obtain ⟨l1, _, _, o8, _⟩ := h8
    exact own_shape o8
  simp only [frm]
  simp
  generalize f9 8 = y8 at *
  generalize f9 15 = u15 at *; generalize f9 16 = u16 at *; generalize f9 17 = u17 at *; generalize f9 18 = u18 at *; generalize f9 19 = u19 at *; generalize f9 20 = u20 at *; generalize f9 21 = u21 at *; generalize f9 22 = u22 at *; generalize f9 23 = u23 at *; generalize f9 24 = u24 at *; generalize f9 25 = u25 at *; generalize f9 26 = u26 at *; generalize f9 27 = u27 at *
  have KB1 := Lib.hid kb
  have KD2 := Lib.hid kd
  have KP := Lib.hid kp
  have HC2 := Lib.hid fun (x : World) (hx : Below W1.heap.size W1 x) => CC.out x (by
    obtain ⟨⟨tv', h1⟩, h2⟩ := kc1
    exact ⟨⟨tv', (hx.block g (Array.getElem?_eq_some_iff.1 h1).1).trans h1⟩, (hx.block k (Nat.lt_of_lt_of_le hkl (by obtain ⟨_, _, _, _, _, _, _, _, _, _, _, _, _, m1⟩ := h8; exact m1.size))).trans h2⟩)
  have H0S := Lib.hid fun (y : Value) (x : World) (h : EndsPostP s.data.toList b H l (.slice (some ⟨go, 0, none⟩) n n) gb Fb W1 (.returned y) x) => show ∃ p n c, y = .slice p n c from by
    obtain ⟨y', l1, Fa', e1, o1, _⟩ := h
    injection e1 with e1
    rw [e1]
    exact own_shape o1
  clear h8 h8s kb kd kp kc1 KA1 KD1 NX HC1 G0S f9
  go_wp2_with fail
  refine wp_region_orderX [12, 13, 14, 15] (fun i => if i = 12 then 2 else if i = 13 then 3 else if i = 14 then 4 else if i = 15 then 5 else 1) (pvS [some (y8), some (.pointer (some ⟨g, 0, none⟩)), some (.pointer (some ⟨g, 0, none⟩)), some (.pointer (some ⟨g, 7, none⟩)), some (.pointer (some ⟨g, 0, none⟩)), some (.pointer (some ⟨g, 0, none⟩)), some (.pointer (some ⟨g, 6, none⟩)), some (.slice (some ⟨k, 0, none⟩) 2 kc), some (.pointer (some ⟨k, 1, none⟩)), some (.pointer (some ⟨gb, 0, none⟩)), some (.string s), some (.slice (some ⟨go, 0, none⟩) n n), none, none, none, none]) (pv [some (y8), some (.pointer (some ⟨g, 0, none⟩)), some (.pointer (some ⟨g, 0, none⟩)), some (.pointer (some ⟨g, 7, none⟩)), some (.pointer (some ⟨g, 0, none⟩)), some (.pointer (some ⟨g, 0, none⟩)), some (.pointer (some ⟨g, 6, none⟩)), some (.slice (some ⟨k, 0, none⟩) 2 kc), some (.pointer (some ⟨k, 1, none⟩)), some (.pointer (some ⟨gb, 0, none⟩)), some (.string s), some (.slice (some ⟨go, 0, none⟩) n n), none, none, none, none]) (fun X => Below W1.heap.size W1 X) (fun X => X.cell? ⟨g, 6, none⟩ = some (.slice (some ⟨k, 0, none⟩) 2 kc) ∧ X.cell? ⟨k, 0, none⟩ = some (.pointer (some ⟨ga, 0, none⟩)) ∧ X.cell? ⟨k, 1, none⟩ = some (.pointer (some ⟨gb, 0, none⟩)))
    (fun m y X => (match m with
      | 0 => EndsPostP s.data.toList b H l (.slice (some ⟨go, 0, none⟩) n n) gb Fb W1 (.returned y) X
      | 1 => AltMid2 s.data.toList a b H l l1 g k kc gb go sl tv1 Fb W1 y X
      | _ => EndsPostP s.data.toList (.alt a b) H l (.slice (some ⟨f, 0, none⟩) n cap) g F w (.returned y) X) ∧ X.cell? ⟨g, 6, none⟩ = some (.slice (some ⟨k, 0, none⟩) 2 kc) ∧ X.cell? ⟨k, 0, none⟩ = some (.pointer (some ⟨ga, 0, none⟩)) ∧ X.cell? ⟨k, 1, none⟩ = some (.pointer (some ⟨gb, 0, none⟩)))
    (Below.refl _ _).drew HC2.out (fun m v X h => h.2) (fun X X2 h hb => h.trans (hb.mono h.size)) (fun _ _ _ h => h) (by kernel_rfl) (by kernel_rfl) ⟨?_, ?_, ?_, ?_, ?_, ?_, ?_, ?_, ?_, ?_, ?_, ?_, ?_, ?_, ?_, ?_, trivial⟩ ?_
  · intro a x K out get old hC hK
    rw [if_pos (wanted_none rfl)]
    have o8 : a.tmps[8]? = some (y8) := out 8 (by kernel_rfl)
    clear out get old
    go_simp
    exact hK _ rfl (fun _ => rfl)
  · intro a x K out get old hC hK
    rw [if_pos (wanted_none rfl)]
    have o0 : a.tmps[0]? = some (.pointer (some ⟨g, 0, none⟩)) := out 0 (by kernel_rfl)
    clear out get old
    go_simp
    exact hK _ rfl (fun _ => rfl)
  · intro a x K out get old hC hK
    rw [if_pos (wanted_none rfl)]
    obtain ⟨y29, hy29, rfl⟩ := get 1 _ _ rfl rfl (by kernel_rfl)
    clear out get old
    go_simp
    exact hK _ rfl (fun _ => rfl)
  · intro a x K out get old hC hK
    rw [if_pos (wanted_none rfl)]
    obtain ⟨y30, hy30, rfl⟩ := get 2 _ _ rfl rfl (by kernel_rfl)
    clear out get old
    go_simp
    exact hK _ rfl (fun _ => rfl)
  · intro a x K out get old hC hK
    rw [if_pos (wanted_none rfl)]
    have o0 : a.tmps[0]? = some (.pointer (some ⟨g, 0, none⟩)) := out 0 (by kernel_rfl)
    clear out get old
    go_simp
    exact hK _ rfl (fun _ => rfl)
  · intro a x K out get old hC hK
    rw [if_pos (wanted_none rfl)]
    obtain ⟨y32, hy32, rfl⟩ := get 4 _ _ rfl rfl (by kernel_rfl)
    clear out get old
    go_simp
    exact hK _ rfl (fun _ => rfl)
  · intro a x K out get old hC hK
    rw [if_pos (wanted_none rfl)]
    obtain ⟨y33, hy33, rfl⟩ := get 5 _ _ rfl rfl (by kernel_rfl)
    clear out get old
    go_simp
    exact hK _ rfl (fun _ => rfl)
  · intro a x K out get old hC hK
    rw [if_pos (wanted_none rfl)]
    obtain ⟨y34, hy34, rfl⟩ := get 6 _ _ rfl rfl (by kernel_rfl)
    clear out get old
    obtain ⟨d0, d1, d2⟩ := hC
    go_simp
    exact hK _ rfl (fun _ => rfl)
  · intro a x K out get old hC hK
    rw [if_pos (wanted_none rfl)]
    obtain ⟨y35, hy35, rfl⟩ := get 7 _ _ rfl rfl (by kernel_rfl)
    clear out get old
    go_simp
    exact hK _ rfl (fun _ => rfl)
  · intro a x K out get old hC hK
    rw [if_pos (wanted_none rfl)]
    obtain ⟨y36, hy36, rfl⟩ := get 8 _ _ rfl rfl (by kernel_rfl)
    clear out get old
    obtain ⟨d0, d1, d2⟩ := hC
    go_simp
    exact hK _ rfl (fun _ => rfl)
  · intro a x K out get old hC hK
    rw [if_pos (wanted_none rfl)]
    have o1 : a.tmps[1]? = some (.string s) := out 1 (by kernel_rfl)
    clear out get old
    go_simp
    exact hK _ rfl (fun _ => rfl)
  · intro a x K out get old hC hK
    rw [if_pos (wanted_none rfl)]
    have o7 : a.tmps[7]? = some (.slice (some ⟨go, 0, none⟩) n n) := out 7 (by kernel_rfl)
    clear out get old
    go_simp
    exact hK _ rfl (fun _ => rfl)
  · intro a x K out get hJ hK
    rw [if_pos (wanted_none rfl)]
    obtain ⟨y37, hy37, rfl, -⟩ := get 9 _ _ rfl rfl (by kernel_rfl)
    obtain ⟨y38, hy38, rfl, -⟩ := get 10 _ _ rfl rfl (by kernel_rfl)
    obtain ⟨y39, hy39, rfl, -⟩ := get 11 _ _ rfl rfl (by kernel_rfl)
    clear out get
    have hx : Below W1.heap.size W1 x := hJ
    go_simp
    refine (KB1.out x hx).mono ?_
    rintro e w2 ⟨y, e2, h2, h3⟩
    subst e2
    exact hK _ _ trivial ⟨h2, CC.out w2 h3⟩
  · intro a x K out get hJ hK
    rw [if_pos (wanted_none rfl)]
    obtain ⟨y31, hy31, rfl, -⟩ := get 3 _ _ rfl rfl (by kernel_rfl)
    obtain ⟨y40, hy40, hG, -⟩ := hJ
    clear out get
    obtain ⟨yp, yn, yc, rfl⟩ := H0S.out y40 x hG
    go_simp
    refine (KD2.out _ x hG).mono ?_
    rintro e w2 ⟨y, e2, h2, h3⟩
    subst e2
    exact hK _ _ trivial ⟨h2, CC.out w2 h3⟩
  · intro a x K out get hJ hK
    rw [if_pos (wanted_none rfl)]
    obtain ⟨y28, hy28, rfl, -⟩ := get 0 _ _ rfl rfl (by kernel_rfl)
    obtain ⟨y41, hy41, hG, -⟩ := hJ
    clear out get
    refine KP.out _ y41 x hG a _ _ rfl (eval_tmp hy28) (eval_tmp hy41) fun z w2 h2 h3 => ?_
    exact hK _ _ trivial ⟨h2, CC.out w2 h3⟩
  · intro a x K out get hJ hK
    rw [if_pos (wanted_none rfl)]
    obtain ⟨y42, hy42, hG⟩ := hJ
    clear out get
    go_simp
    exact hK _ _ trivial hG
  refine ao_finX (isD := fun s => (decide (28 ≤ s) && decide (s ≤ 42)) || decide (s = 6)) 3 (some 6) rfl (by kernel_rfl) (by kernel_rfl) (by kernel_rfl) ?_
  intro f9 W2 hv hG hn
  have h6 := (hG 6 rfl).1
  clear hv hG hn
  have HE := Lib.hid h6
  clear h6
  simp only [frm]
  simp
  generalize f9 6 = u6 at *
  go_wp2
  go_ret
  exact HE.out
open Go.RowKit
theorem wpList_app_ints {w : World} {ops : Array Oper} {rest : List Oper} {o : Oper} {a : Act} {Q : Exit → Act → World → Prop} (hgd : o.guard = none) (s x : Operand)
    (ho : o.op = .call { callee := .builtin .append, args := #[s, x], argTypes := #[35, 35] }) (v u : Value) (l m : List Nat) (hs : a.eval s = v) (hx : a.eval x = u) (hv : OwnI w v l) (hu : OwnI w u m) (hlen : l.length + m.length ≤ 1000)
    (h : ∀ v' w', OwnI w' v' (l ++ m) → (v'.ownBlock = v.ownBlock ∨ v'.ownBlock = some w.heap.size) → w.grownBy w' v.ownBlock → wpList Tryz.prog ops Q rest (a.put o.dst v') w') : wpList Tryz.prog ops Q (o :: rest) a w :=
  wpList_plain hgd fun _ hK => wp_app_ints s x ho v u l m hs hx hv hu hlen fun v' w' h1 h2 h3 => hK _ _ (h v' w' h1 h2 h3)
structure StarQ (s : List UInt8) (a : Ex) (g k kc ga f : Nat) (sl tv : Value) (Fa : Nat → Prop) (w : World) (K : Nat → Prop) (c av : List Nat) (Fa' : Nat → Prop) (tv' y2 y7 : Value) (W : World) : Prop where
  o2 : OwnI W y2 c
  o7 : OwnI W y7 av
  p : PartAt s a K W ga Fa'
  i : ∀ z, Fa' z → Fa z ∨ w.heap.size ≤ z
  nd : W.heap[g]? = some (.cells (#[.int .u8 6, .int .u64 Ws.nil.a, .int .u64 Ws.nil.b, .int .u64 Ws.nil.c, .int .u64 Ws.nil.d, sl, .slice (some ⟨k, 0, none⟩) 1 kc, tv']) 75)
  hk : W.heap[k]? = w.heap[k]?
  told : ToldV W tv' (Also K c)
  b : tv'.ownBlock = tv.ownBlock ∨ ∃ t, tv'.ownBlock = some t ∧ w.heap.size ≤ t
  n2 : ∀ z, y2.ownBlock = some z → ¬ Fa' z ∧ (z = f ∨ w.heap.size ≤ z)
  n7 : ∀ z, y7.ownBlock = some z → ¬ Fa' z ∧ w.heap.size ≤ z ∧ y2.ownBlock ≠ some z
  ct : ∀ t, tv'.ownBlock = some t → ¬ Fa' t ∧ y2.ownBlock ≠ some t ∧ y7.ownBlock ≠ some t
  fm : Fm (fun z => z = g ∨ Fa z ∨ z = f ∨ tv.ownBlock = some z) w W
def lenV : Value → Nat
  | .slice _ n _ => n
  | _ => 0
def starInvM (s : List UInt8) (a : Ex) (H : Nat → Prop) (l : List Nat) (g k kc ga f : Nat) (sl tv : Value) (Fa : Nat → Prop) (w : World) (y2 y7 : Value) (W : World) : Prop :=
  ∃ K c av Fa' tv', StarI a s H l K c av ∧ StarQ s a g k kc ga f sl tv Fa w K c av Fa' tv' y2 y7 W
theorem own_len {w : World} {v : Value} {l : List Nat} (h : OwnI w v l) : ∃ p c, v = .slice p l.length c := by
  rcases h.form with ⟨rfl, rfl⟩ | ⟨f, cap, cur, rfl, _⟩
  · exact ⟨_, _, rfl⟩
  · exact ⟨_, _, rfl⟩
set_option maxRecDepth 100000 in
set_option maxHeartbeats 4000000 in
theorem mstar_any (s : ByteArray) (hs : s.size ≤ 60) (a : Ex) (KA : EndsK s a) (H : Nat → Prop) (l : List Nat) (w : World) (g : Nat) (F : Nat → Prop) (v : Value) (hp : PartAt s.data.toList (.star a) H w g F) (hv : OwnI w v l) (hvF : ∀ f, v.ownBlock = some f → ¬ F f) (ha : Ask s.data.toList H l) (hne : l ≠ []) :
    Calls Tryz.prog 34 #[.pointer (some ⟨g, 0, none⟩), .string s, v] w (EndsPostP s.data.toList (.star a) H l v g F w) := by
  rcases id hv.form with ⟨_, h0⟩ | ⟨f, cap, fc, rfl, -, -, -, -, -⟩
  · exact absurd h0 hne
  have hsz : s.data.toList.length ≤ 60 := by rw [Array.length_toList]; exact hs
  have hfF : ¬ F f := hvF f rfl
  obtain ⟨n, hn⟩ : ∃ n, n = l.length := ⟨_, rfl⟩
  have hfl : f < w.heap.size := hv.lt (f := f) rfl
  obtain ⟨hgF, hFl, tv, k, kc, ga, Fa, ⟨sl, hg⟩, hP, hkF, hkg, hA, sa, hT, st⟩ := hp
  have hgl : g < w.heap.size := hFl g hgF
  have hkl : k < w.heap.size := hFl k hkF
  have hfg : f ≠ g := fun e => hfF (by rw [e]; exact hgF)
  have hfk : f ≠ k := fun e => hfF (by rw [e]; exact hkF)
  have htl : ∀ t, tv.ownBlock = some t → t < w.heap.size := fun t ht => hT.lt ht
  have hC0 : ∀ X : World, ((∃ tv', X.heap[g]? = some (.cells (#[.int .u8 6, .int .u64 Ws.nil.a, .int .u64 Ws.nil.b, .int .u64 Ws.nil.c, .int .u64 Ws.nil.d, sl, .slice (some ⟨k, 0, none⟩) 1 kc, tv']) 75)) ∧ X.heap[k]? = w.heap[k]?) → X.cell? ⟨g, 6, none⟩ = some (.slice (some ⟨k, 0, none⟩) 1 kc) ∧ X.cell? ⟨k, 0, none⟩ = some (.pointer (some ⟨ga, 0, none⟩)) := fun X ⟨⟨tv', h1⟩, h2⟩ =>
    ⟨by rw [Lib.cell_of_heap h1]; rfl, (hP.go h2).cell 0 (by simp)⟩
  have KF : Calls Tryz.prog 59 #[.pointer (some ⟨g, 7, none⟩), .slice (some ⟨f, 0, none⟩) l.length cap] w fun e w2 => ∃ z, e = .returned z ∧ starInvM s.data.toList a H l g k kc ga f sl tv Fa w z (.slice none 0 0) w2 := by
    refine (madd_any tv _ g 7 _ _ (.slice (some ⟨f, 0, none⟩) l.length cap) l w (fun j hj => by have := (ha.2 j hj).1; omega) ha.1 hg rfl hT (fun e => (st g e).2.1 rfl) hv (fun e => by injection e with e; exact hfg e) (fun t ht e => by injection e with e; exact hfF (by rw [show f = t from e]; exact (st t ht).1))).mono ?_
    rintro e w2 ⟨z, rfl, oz, ez, tv1, a1, a2, a3, a4⟩
    have hz : ∀ q, z.ownBlock = some q → q = f := fun q hq => by rw [ez] at hq; injection hq with hq; exact hq.symm
    refine ⟨z, rfl, _, _, [], Fa, tv1, star_begin ha, ⟨oz, OwnI.nil w2, hA.fm a4 fun q hq e => ?_, fun q hq => .inl hq, a1, a4.block k hkl fun e => ?_, by rw [also_newL]; exact a2, a3, fun q hq => ⟨fun h => hfF (by rw [← hz q hq]; exact (sa q h).1), .inl (hz q hq)⟩, fun q hq => (by cases hq), fun t ht => ⟨fun h => ?_, fun h => ?_, fun h => (by cases h)⟩, a4.mono fun q _ hq => ?_⟩⟩
    · rcases e with e | e | e
      · exact (sa q hq).2.1 e
      · injection e with e; exact hfF (by rw [show f = q from e]; exact (sa q hq).1)
      · exact (st q e).2.2.2 hq
    · rcases e with e | e | e
      · exact hkg e
      · injection e with e; exact hfk e
      · exact (st k e).2.2.1 rfl
    · rcases a3 with h2 | ⟨t', h2, h'⟩
      · rw [h2] at ht; exact (st t ht).2.2.2 h
      · rw [h2] at ht; injection ht with ht; have := hFl t (sa t h).1; omega
    · rcases a3 with h2 | ⟨t', h2, h'⟩
      · rw [h2] at ht; exact hfF (by rw [← hz t h]; exact (st t ht).1)
      · rw [h2] at ht; injection ht with ht; have := hz t h; omega
    · rcases hq with h | h | h
      · exact .inl h
      · injection h with h; exact .inr (.inr (.inl h.symm))
      · exact .inr (.inr (.inr h))
  have KAP : ∀ K c av Fa' tv' y2 y7 X z w2, StarQ s.data.toList a g k kc ga f sl tv Fa w K c av Fa' tv' y2 y7 X → OwnI w2 z (av ++ c) → (z.ownBlock = y7.ownBlock ∨ z.ownBlock = some X.heap.size) → X.grownBy w2 y7.ownBlock → StarQ s.data.toList a g k kc ga f sl tv Fa w K c (av ++ c) Fa' tv' y2 z w2 := by
    intro K c av Fa' tv' y2 y7 X z w2 q oz hat hgr
    have hXs := q.fm.size
    have keep : ∀ b, b < X.heap.size → y7.ownBlock ≠ some b → w2.heap[b]? = X.heap[b]? := fun b hb hn => hgr.block b hb fun e => hn e.symm
    have h7 : ∀ b, b < w.heap.size → y7.ownBlock ≠ some b := fun b hb e => by have := (q.n7 b e).2.1; omega
    refine ⟨q.o2.go fun b hb => keep b (q.o2.lt hb) fun e => (q.n7 b e).2.2 hb, oz, q.p.go _ hgr.size fun b hb => keep b (q.p.lt b hb) fun e => (q.n7 b e).1 hb, q.i, (keep g (by omega) (h7 g hgl)).trans q.nd, (keep k (by omega) (h7 k hkl)).trans q.hk, q.told.go fun t ht => keep t (q.told.lt ht) (q.ct t ht).2.2, q.b, q.n2, fun b hb => ?_, fun t ht => ⟨(q.ct t ht).1, (q.ct t ht).2.1, fun e => ?_⟩, q.fm.then (Fm.grown (X := fun b => y7.ownBlock = some b) hgr fun b h => h) fun b hb h => absurd h (h7 b hb)⟩
    · rcases hat with e | e
      · rw [e] at hb; exact q.n7 b hb
      · rw [e] at hb
        injection hb with hb
        exact ⟨fun h => by have := q.p.lt b h; omega, by omega, fun h => by have := q.o2.lt h; omega⟩
    · rcases hat with h | h
      · rw [h] at e; exact (q.ct t ht).2.2 e
      · rw [h] at e; injection e with e; have := q.told.lt ht; omega
  have NEXT : ∀ K c av Fa' tv' y2 y7 (W1 : World), StarQ s.data.toList a g k kc ga f sl tv Fa w K c av Fa' tv' y2 y7 W1 → Ask s.data.toList K c → Hid ((∀ x, Below W1.heap.size W1 x → Calls Tryz.prog 21 #[.pointer (some ⟨ga, 0, none⟩), .string s, y2] x fun e w2 => ∃ y, e = .returned y ∧ EndsPostP s.data.toList a K c y2 ga Fa' W1 (.returned y) w2 ∧ ((∃ tv', w2.heap[g]? = some (.cells (#[.int .u8 6, .int .u64 Ws.nil.a, .int .u64 Ws.nil.b, .int .u64 Ws.nil.c, .int .u64 Ws.nil.d, sl, .slice (some ⟨k, 0, none⟩) 1 kc, tv']) 75)) ∧ w2.heap[k]? = w.heap[k]?)) ∧
      (∀ y x, EndsPostP s.data.toList a K c y2 ga Fa' W1 (.returned y) x → Calls Tryz.prog 59 #[.pointer (some ⟨g, 7, none⟩), y] x fun e w2 => ∃ z, e = .returned z ∧ (∃ l' Fa2 tv2, Tld a s.data.toList K c l' ∧ StarQ s.data.toList a g k kc ga f sl tv Fa w (Also K c) (newL (Also K c) l') av Fa2 tv2 z y7 w2) ∧ ((∃ tv', w2.heap[g]? = some (.cells (#[.int .u8 6, .int .u64 Ws.nil.a, .int .u64 Ws.nil.b, .int .u64 Ws.nil.c, .int .u64 Ws.nil.d, sl, .slice (some ⟨k, 0, none⟩) 1 kc, tv']) 75)) ∧ w2.heap[k]? = w.heap[k]?))) := by
    intro K c av Fa' tv' y2 y7 W1 q hask
    have hWs := q.fm.size
    have hgl1 : g < W1.heap.size := by omega
    have hkl1 : k < W1.heap.size := by omega
    have hFa : ∀ z, Fa' z → z ≠ g ∧ z ≠ k := fun z hz => by
      rcases q.i z hz with h | h
      · exact (sa z h).2
      · exact ⟨by omega, by omega⟩
    have h2g : ∀ z, y2.ownBlock = some z → z ≠ g ∧ z ≠ k := fun z hz => by
      rcases (q.n2 z hz).2 with h | h
      · exact ⟨by omega, by omega⟩
      · exact ⟨by omega, by omega⟩
    refine Lib.hid ⟨fun x hx => ?_, fun y x h => ?_⟩
    · refine (KA K c x ga Fa' y2 (q.p.below hx) (q.o2.below hx) (fun b hb => (q.n2 b hb).1) hask).mono fun e w2 h => ?_
      obtain ⟨y, rfl⟩ := h.ret
      have h' := h.pre hx
      refine ⟨y, rfl, h', ⟨tv', ?_⟩, ?_⟩
      · obtain ⟨_, _, _, _, _, _, _, _, _, hF⟩ := h'
        exact (hF.block g hgl1 fun e => e.elim (fun e => (hFa g e).1 rfl) (fun e => (h2g g e).1 rfl)).trans q.nd
      · obtain ⟨_, _, _, _, _, _, _, _, _, hF⟩ := h'
        exact (hF.block k hkl1 fun e => e.elim (fun e => (hFa k e).2 rfl) (fun e => (h2g k e).2 rfl)).trans q.hk
    · obtain ⟨y', l', Fa2, e1, o1, n1, t1, p1, i1, m1⟩ := h
      injection e1 with e1
      subst e1
      have htF : ∀ t, tv'.ownBlock = some t → t < W1.heap.size ∧ ¬ Fa2 t ∧ t ≠ g ∧ t ≠ k := fun t ht => by
        have hl := q.told.lt ht
        refine ⟨hl, fun h => ?_, ?_, ?_⟩
        · rcases i1 t h with h | h
          · exact (q.ct t ht).1 h
          · omega
        · rcases q.b with h | ⟨t', h, h'⟩
          · rw [h] at ht; exact (st t ht).2.1
          · rw [h] at ht; injection ht with ht; omega
        · rcases q.b with h | ⟨t', h, h'⟩
          · rw [h] at ht; exact (st t ht).2.2.1
          · rw [h] at ht; injection ht with ht; omega
      have hyg : ∀ z, y.ownBlock = some z → z ≠ g ∧ z ≠ k ∧ tv'.ownBlock ≠ some z ∧ y7.ownBlock ≠ some z ∧ (z = f ∨ w.heap.size ≤ z) := fun z hz => by
        rcases (n1 z hz).2 with h | h
        · exact ⟨(h2g z h).1, (h2g z h).2, fun e => (q.ct z e).2.1 h, fun e => (q.n7 z e).2.2 h, (q.n2 z h).2⟩
        · exact ⟨by omega, by omega, fun e => by have := (htF z e).1; omega, fun e => by have := q.o7.lt e; omega, .inr (by omega)⟩
      have h7x : ∀ z, y7.ownBlock = some z → z < W1.heap.size ∧ ¬ Fa2 z := fun z hz => ⟨q.o7.lt hz, fun h => by
        rcases i1 z h with h | h
        · exact (q.n7 z hz).1 h
        · have := q.o7.lt hz; omega⟩
      have hgx : x.heap[g]? = W1.heap[g]? := m1.block g hgl1 fun e => e.elim (fun e => (hFa g e).1 rfl) (fun e => (h2g g e).1 rfl)
      have hkx : x.heap[k]? = W1.heap[k]? := m1.block k hkl1 fun e => e.elim (fun e => (hFa k e).2 rfl) (fun e => (h2g k e).2 rfl)
      have hTx : ToldV x tv' (Also K c) := q.told.go fun t ht => m1.block t (htF t ht).1 fun e => e.elim (fun e => (q.ct t ht).1 e) (fun e => (q.ct t ht).2.1 e)
      have o7x : OwnI x y7 av := q.o7.go fun z hz => m1.block z (h7x z hz).1 fun e => e.elim (fun e => (q.n7 z hz).1 e) (fun e => (q.n7 z hz).2.2 e)
      refine (madd_any tv' _ g 7 _ _ y l' x (fun j hj => by have := ((t1.2 j).1 hj).1.1; omega) t1.1 (hgx.trans q.nd) rfl hTx (fun e => (htF g e).2.2.1 rfl) o1 (fun e => (hyg g e).1 rfl) (fun t ht e => (hyg t e).2.2.1 ht)).mono ?_
      rintro e w2 ⟨z, rfl, oz, ez, tv2, a1, a2, a3, a4⟩
      have hxs := m1.size
      have hkw : w2.heap[k]? = w.heap[k]? := ((a4.block k (by omega) fun e => by
        rcases e with e | e | e
        · exact hkg e
        · exact (hyg k e).2.1 rfl
        · exact (htF k e).2.2.2 rfl).trans hkx).trans q.hk
      have hFa2 : ∀ z, Fa2 z → z ≠ g := fun z hz => by
        rcases i1 z hz with h | h
        · exact (hFa z h).1
        · omega
      refine ⟨z, rfl, ⟨l', Fa2, tv2, t1, ⟨oz, o7x.fm a4 fun b hb e => ?_, p1.fm a4 fun b hb e => ?_, fun b hb => ?_, a1, hkw, by rw [also_newL]; exact a2, ?_, fun b hb => ?_, fun b hb => ⟨(h7x b hb).2, (q.n7 b hb).2.1, fun e => ?_⟩, fun t ht => ?_, ?_⟩⟩, ⟨tv2, a1⟩, hkw⟩
      · rcases e with e | e | e
        · have := (q.n7 b hb).2.1; omega
        · exact (hyg b e).2.2.2.1 hb
        · exact (q.ct b e).2.2 hb
      · rcases e with e | e | e
        · exact hFa2 b hb e
        · exact (n1 b e).1 hb
        · exact (htF b e).2.1 hb
      · rcases i1 b hb with h | h
        · exact q.i b h
        · exact .inr (by omega)
      · rcases a3 with h | ⟨t, h, h'⟩
        · rw [h]; exact q.b
        · exact .inr ⟨t, h, by omega⟩
      · rw [ez] at hb
        exact ⟨(n1 b hb).1, (hyg b hb).2.2.2.2⟩
      · rw [ez] at e
        exact (hyg b e).2.2.2.1 hb
      · rw [ez]
        rcases a3 with h | ⟨t', h, h'⟩
        · rw [h] at ht
          exact ⟨(htF t ht).2.1, fun e => (hyg t e).2.2.1 ht, (q.ct t ht).2.2⟩
        · rw [h] at ht
          injection ht with ht
          subst ht
          exact ⟨fun e => by have := p1.lt t' e; omega, fun e => by have := o1.lt e; omega, fun e => by have := (h7x t' e).1; omega⟩
      · refine (q.fm.then m1 fun b hb h => ?_).then a4 fun b hb h => ?_
        · rcases h with h | h
          · rcases q.i b h with h | h
            · exact .inr (.inl h)
            · omega
          · rcases (q.n2 b h).2 with h | h
            · exact .inr (.inr (.inl h))
            · omega
        · rcases h with h | h | h
          · exact .inl h
          · rcases (hyg b h).2.2.2.2 with h | h
            · exact .inr (.inr (.inl h))
            · omega
          · rcases q.b with h2 | ⟨t', h2, h'⟩
            · rw [h2] at h; exact .inr (.inr (.inr h))
            · rw [h2] at h; injection h with h; omega
  have KE : ∀ K av Fa' tv' y2 y7 X, StarI a s.data.toList H l K [] av → StarQ s.data.toList a g k kc ga f sl tv Fa w K [] av Fa' tv' y2 y7 X → EndsPostP s.data.toList (.star a) H l (.slice (some ⟨f, 0, none⟩) l.length cap) g F w (.returned y7) X := by
    intro K av Fa' tv' y2 y7 X hI q
    obtain ⟨h1, h2⟩ := star_end hI
    have hXs := q.fm.size
    have hq := q.told
    rw [also_nil] at hq
    have hp' := q.p
    rw [h2] at hq hp'
    have ht : ∀ t, tv'.ownBlock = some t → t ≠ g ∧ t ≠ k ∧ (F t ∨ w.heap.size ≤ t) := fun t ht => by
      rcases q.b with h | ⟨t', h, h'⟩
      · rw [h] at ht; exact ⟨(st t ht).2.1, (st t ht).2.2.1, .inl (st t ht).1⟩
      · rw [h] at ht; injection ht with ht; exact ⟨by omega, by omega, .inr (by omega)⟩
    refine ⟨y7, av, fun b => b = g ∨ b = k ∨ Fa' b ∨ tv'.ownBlock = some b, rfl, q.o7, fun b hb => ⟨fun h => ?_, .inr (q.n7 b hb).2.1⟩, h1, ⟨.inl rfl, fun b hb => ?_, tv', k, kc, ga, Fa', ⟨sl, q.nd⟩, hP.go q.hk, .inr (.inl rfl), hkg, hp', fun b hb => ⟨.inr (.inr (.inl hb)), ?_⟩, hq, fun t h => ⟨.inr (.inr (.inr h)), (ht t h).1, (ht t h).2.1, (q.ct t h).1⟩⟩, fun b hb => ?_, q.fm.mono fun b hb h => ?_⟩
    · have h7 := q.n7 b hb
      rcases h with h | h | h | h
      · omega
      · omega
      · exact h7.1 h
      · exact (q.ct b h).2.2 hb
    · rcases hb with h | h | h | h
      · omega
      · omega
      · exact q.p.lt b h
      · exact q.told.lt h
    · rcases q.i b hb with h | h
      · exact (sa b h).2
      · exact ⟨by omega, by omega⟩
    · rcases hb with h | h | h | h
      · exact .inl (by rw [h]; exact hgF)
      · exact .inl (by rw [h]; exact hkF)
      · exact (q.i b h).imp (fun h => (sa b h).1) id
      · exact (ht b h).2.2
    · rcases h with h | h | h | h
      · exact .inl (by rw [h]; exact hgF)
      · exact .inl (sa b h).1
      · exact .inr (by rw [h]; rfl)
      · exact .inl (st b h).1
  have KF1 := Lib.hid KF
  have AP := Lib.hid KAP
  have NX := Lib.hid NEXT
  have EN := Lib.hid KE
  have CC := Lib.hid hC0
  rw [← hn] at KF1 EN ⊢
  clear KF KAP NEXT KE hC0 hgF hFl hP hkF hA sa hT st htl hfF KA ha hv hvF hg hn hne hfl hfg hfk
  go_enter Tryz.func34, Tryz.ntmps34
  go_wp2_with fail
  refine KF1.out.mono ?_
  rintro e w1 ⟨z, rfl, hinv⟩
  have HINV := Lib.hid hinv
  clear hinv KF1
  go_wp2_with fail
  go_loopw [2, 7] (fun y2 y7 wr => starInvM s.data.toList a H l g k kc ga f sl tv Fa w y2 y7 wr) (fun _ y7 _ => s.data.toList.length + 1 - lenV y7)
  case atStart => exact HINV.out
  case round =>
    clear HINV
    obtain ⟨K, c, av, Fa', tv', hI, hQ⟩ := hrel
    obtain ⟨yp, ycap, hy2⟩ := own_len hQ.o2
    obtain ⟨yq, ycap7, hy7⟩ := own_len hQ.o7
    generalize u2 = y2 at *
    generalize u7 = y7 at *
    by_cases hc : c = []
    · subst hc
      have HE := Lib.hid (EN.out _ _ _ _ _ _ _ hI hQ)
      subst hy2 hy7
      clear hI hQ EN AP NX CC
      go_wp2
      go_ret
      exact HE.out
    · have hcl : (0 : Int) < (c.length : Int) := by have : c.length ≠ 0 := fun e => hc (List.length_eq_zero_iff.1 e); omega
      have hlen := star_len hI
      have HLEN := Lib.hid hlen
      have HCN : Hid (0 < c.length) := Lib.hid (by omega)
      have hle : av.length + c.length ≤ 1000 := by rw [List.length_append] at hlen; omega
      have HI := Lib.hid hI
      have HQ := Lib.hid hQ
      have HLE := Lib.hid hle
      subst hy2 hy7
      clear hI hQ hlen hle hc EN
      go_wp2_with (at_builtin; refine wpList_app_ints rfl _ _ rfl _ _ av c rfl rfl HQ.out.o7 HQ.out.o2 HLE.out ?_)
      intro z W1 hz hat hgr
      have q2 := AP.out _ _ _ _ _ _ _ _ z W1 HQ.out hz hat hgr
      obtain ⟨KA0, KD0⟩ := (NX.out _ _ _ _ _ _ _ _ q2 HI.out.ask).out
      obtain ⟨zp, zc, rfl⟩ := own_len hz
      have KA1 := Lib.hid KA0
      have KD1 := Lib.hid KD0
      have HC1 := Lib.hid fun (x : World) (hx : Below W1.heap.size W1 x) => CC.out x ⟨⟨_, (hx.block g (Array.getElem?_eq_some_iff.1 q2.nd).1).trans q2.nd⟩, (hx.block k (Nat.lt_of_lt_of_le hkl q2.fm.size)).trans q2.hk⟩
      have G0S := Lib.hid fun (y : Value) (x : World) (h : EndsPostP s.data.toList a K c (.slice yp c.length ycap) ga Fa' W1 (.returned y) x) => show ∃ p n c, y = .slice p n c from by
        obtain ⟨y', l1, Fa', e1, o1, _⟩ := h
        injection e1 with e1
        rw [e1]
        exact own_shape o1
      clear KA0 KD0 q2 hz hat hgr AP NX HQ HLE
      obtain ⟨na, hna⟩ : ∃ na, na = (av ++ c).length := ⟨_, rfl⟩
      rw [← hna] at KD1 ⊢
      have HNA := Lib.hid hna
      clear hna
      go_wp2_with fail
      refine wp_region_orderX [11, 12, 13] (fun i => if i = 11 then 2 else if i = 12 then 3 else if i = 13 then 4 else 1) (pvS [some (.pointer (some ⟨g, 0, none⟩)), some (.pointer (some ⟨g, 0, none⟩)), some (.pointer (some ⟨g, 7, none⟩)), some (.pointer (some ⟨g, 0, none⟩)), some (.pointer (some ⟨g, 0, none⟩)), some (.pointer (some ⟨g, 6, none⟩)), some (.slice (some ⟨k, 0, none⟩) 1 kc), some (.pointer (some ⟨k, 0, none⟩)), some (.pointer (some ⟨ga, 0, none⟩)), some (.string s), some (.slice yp c.length ycap), none, none, none]) (pv [some (.pointer (some ⟨g, 0, none⟩)), some (.pointer (some ⟨g, 0, none⟩)), some (.pointer (some ⟨g, 7, none⟩)), some (.pointer (some ⟨g, 0, none⟩)), some (.pointer (some ⟨g, 0, none⟩)), some (.pointer (some ⟨g, 6, none⟩)), some (.slice (some ⟨k, 0, none⟩) 1 kc), some (.pointer (some ⟨k, 0, none⟩)), some (.pointer (some ⟨ga, 0, none⟩)), some (.string s), some (.slice yp c.length ycap), none, none, none]) (fun X => Below W1.heap.size W1 X) (fun X => X.cell? ⟨g, 6, none⟩ = some (.slice (some ⟨k, 0, none⟩) 1 kc) ∧ X.cell? ⟨k, 0, none⟩ = some (.pointer (some ⟨ga, 0, none⟩)))
        (fun m y X => (match m with
          | 0 => EndsPostP s.data.toList a K c (.slice yp c.length ycap) ga Fa' W1 (.returned y) X
          | _ => ∃ l' Fa2 tv2, Tld a s.data.toList K c l' ∧ StarQ s.data.toList a g k kc ga f sl tv Fa w (Also K c) (newL (Also K c) l') (av ++ c) Fa2 tv2 y (.slice zp na zc) X) ∧ X.cell? ⟨g, 6, none⟩ = some (.slice (some ⟨k, 0, none⟩) 1 kc) ∧ X.cell? ⟨k, 0, none⟩ = some (.pointer (some ⟨ga, 0, none⟩)))
        (Below.refl _ _).drew HC1.out (fun m v X h => h.2) (fun X X2 h hb => h.trans (hb.mono h.size)) (fun _ _ _ h => h) (by kernel_rfl) (by kernel_rfl) ⟨?_, ?_, ?_, ?_, ?_, ?_, ?_, ?_, ?_, ?_, ?_, ?_, ?_, ?_, trivial⟩ ?_
      · intro a x K out get old hC hK
        rw [if_pos (wanted_none rfl)]
        have o0 : a.tmps[0]? = some (.pointer (some ⟨g, 0, none⟩)) := out 0 (by kernel_rfl)
        clear out get old
        go_simp
        exact hK _ rfl (fun _ => rfl)
      · intro a x K out get old hC hK
        rw [if_pos (wanted_none rfl)]
        obtain ⟨y16, hy16, rfl⟩ := get 0 _ _ rfl rfl (by kernel_rfl)
        clear out get old
        go_simp
        exact hK _ rfl (fun _ => rfl)
      · intro a x K out get old hC hK
        rw [if_pos (wanted_none rfl)]
        obtain ⟨y17, hy17, rfl⟩ := get 1 _ _ rfl rfl (by kernel_rfl)
        clear out get old
        go_simp
        exact hK _ rfl (fun _ => rfl)
      · intro a x K out get old hC hK
        rw [if_pos (wanted_none rfl)]
        have o0 : a.tmps[0]? = some (.pointer (some ⟨g, 0, none⟩)) := out 0 (by kernel_rfl)
        clear out get old
        go_simp
        exact hK _ rfl (fun _ => rfl)
      · intro a x K out get old hC hK
        rw [if_pos (wanted_none rfl)]
        obtain ⟨y19, hy19, rfl⟩ := get 3 _ _ rfl rfl (by kernel_rfl)
        clear out get old
        go_simp
        exact hK _ rfl (fun _ => rfl)
      · intro a x K out get old hC hK
        rw [if_pos (wanted_none rfl)]
        obtain ⟨y20, hy20, rfl⟩ := get 4 _ _ rfl rfl (by kernel_rfl)
        clear out get old
        go_simp
        exact hK _ rfl (fun _ => rfl)
      · intro a x K out get old hC hK
        rw [if_pos (wanted_none rfl)]
        obtain ⟨y21, hy21, rfl⟩ := get 5 _ _ rfl rfl (by kernel_rfl)
        clear out get old
        obtain ⟨d0, d1⟩ := hC
        go_simp
        exact hK _ rfl (fun _ => rfl)
      · intro a x K out get old hC hK
        rw [if_pos (wanted_none rfl)]
        obtain ⟨y22, hy22, rfl⟩ := get 6 _ _ rfl rfl (by kernel_rfl)
        clear out get old
        go_simp
        exact hK _ rfl (fun _ => rfl)
      · intro a x K out get old hC hK
        rw [if_pos (wanted_none rfl)]
        obtain ⟨y23, hy23, rfl⟩ := get 7 _ _ rfl rfl (by kernel_rfl)
        clear out get old
        obtain ⟨d0, d1⟩ := hC
        go_simp
        exact hK _ rfl (fun _ => rfl)
      · intro a x K out get old hC hK
        rw [if_pos (wanted_none rfl)]
        have o1 : a.tmps[1]? = some (.string s) := out 1 (by kernel_rfl)
        clear out get old
        go_simp
        exact hK _ rfl (fun _ => rfl)
      · intro a x K out get old hC hK
        rw [if_pos (wanted_none rfl)]
        have o2 : a.tmps[2]? = some (.slice yp c.length ycap) := old 13 _ _ rfl rfl (by kernel_rfl)
        clear out get old
        go_simp
        exact hK _ rfl (fun _ => rfl)
      · intro a x K out get hJ hK
        rw [if_pos (wanted_none rfl)]
        obtain ⟨y24, hy24, rfl, -⟩ := get 8 _ _ rfl rfl (by kernel_rfl)
        obtain ⟨y25, hy25, rfl, -⟩ := get 9 _ _ rfl rfl (by kernel_rfl)
        obtain ⟨y26, hy26, rfl, -⟩ := get 10 _ _ rfl rfl (by kernel_rfl)
        clear out get
        have hx : Below W1.heap.size W1 x := hJ
        go_simp
        refine (KA1.out x hx).mono ?_
        rintro e w2 ⟨y, e2, h2, h3⟩
        subst e2
        exact hK _ _ trivial ⟨h2, CC.out w2 h3⟩
      · intro a x K out get hJ hK
        rw [if_pos (wanted_none rfl)]
        obtain ⟨y18, hy18, rfl, -⟩ := get 2 _ _ rfl rfl (by kernel_rfl)
        obtain ⟨y27, hy27, hG, -⟩ := hJ
        clear out get
        obtain ⟨yp, yn, yc, rfl⟩ := G0S.out y27 x hG
        go_simp
        refine (KD1.out _ x hG).mono ?_
        rintro e w2 ⟨y, e2, h2, h3⟩
        subst e2
        exact hK _ _ trivial ⟨h2, CC.out w2 h3⟩
      · intro a x K out get hJ hK
        rw [if_pos (wanted_none rfl)]
        obtain ⟨y28, hy28, hG⟩ := hJ
        clear out get
        go_simp
        exact hK _ _ trivial hG
      refine ao_finX (isD := fun s => (decide (16 ≤ s) && decide (s ≤ 28)) || decide (s = 2)) 2 (some 2) rfl (by kernel_rfl) (by kernel_rfl) (by kernel_rfl) ?_
      intro f9 W2 hv hG hn
      obtain ⟨l', Fa2, tv2, t2, q3⟩ := (hG 2 rfl).1
      clear hv hG hn
      have HE : Hid (starInvM s.data.toList a H l g k kc ga f sl tv Fa w (f9 2) (.slice zp na zc) W2) := Lib.hid ⟨_, _, _, _, _, star_round HI.out t2, q3⟩
      clear t2 q3
      simp only [frm]
      simp
      generalize f9 2 = u2 at *
      clear HC1 KA1 KD1 G0S CC
      go_wp2
      refine ⟨HE.out, ?_⟩
      have h1 := HLEN.out
      have h2 := HCN.out
      have h3 := HNA.out
      rw [List.length_append] at h1 h3
      show s.data.toList.length + 1 - na < s.data.toList.length + 1 - av.length
      omega
set_option maxRecDepth 100000 in
set_option maxHeartbeats 4000000 in
theorem mends_alt (s : ByteArray) (hs : s.size ≤ 60) (a b : Ex) (KA : EndsK s a) (KB : EndsK s b) : EndsK s (.alt a b) := by
  intro H l w g F v hp hv hvF ha
  by_cases hl : l = []
  · subst hl; exact mends_nil s _ H w g F v hp hv
  have KC := Lib.hid (malt_any s hs a b KA KB H l w g F v hp hv hvF ha hl)
  rcases id hv.form with ⟨_, h0⟩ | ⟨f, cap, fc, rfl, -, -, -, -, -⟩
  · exact absurd h0 hl
  obtain ⟨_, _, tv, k, kc, ga, gb, Fa, Fb, ⟨sl, hg⟩, -⟩ := hp
  have c0 : w.cell? ⟨g, 0, none⟩ = some (.int .u8 5) := by rw [Lib.cell_of_heap hg]; rfl
  have q1 : ((l.length : Int) == 0) = false := by cases l with | nil => exact absurd rfl hl | cons x l => simp; omega
  clear hg hv hvF ha hl KA KB
  go_enter Tryz.func21, Tryz.ntmps21
  go_wp2_with fail
  refine KC.out.mono ?_
  intro e w1 he
  obtain ⟨y, rfl⟩ := he.ret
  have HE := Lib.hid he
  clear he
  go_wp2
  go_ret
  exact HE.out
set_option maxRecDepth 100000 in
set_option maxHeartbeats 4000000 in
theorem mends_star (s : ByteArray) (hs : s.size ≤ 60) (a : Ex) (KA : EndsK s a) : EndsK s (.star a) := by
  intro H l w g F v hp hv hvF ha
  by_cases hl : l = []
  · subst hl; exact mends_nil s _ H w g F v hp hv
  have KC := Lib.hid (mstar_any s hs a KA H l w g F v hp hv hvF ha hl)
  rcases id hv.form with ⟨_, h0⟩ | ⟨f, cap, fc, rfl, -, -, -, -, -⟩
  · exact absurd h0 hl
  obtain ⟨_, _, tv, k, kc, ga, Fa, ⟨sl, hg⟩, -⟩ := hp
  have c0 : w.cell? ⟨g, 0, none⟩ = some (.int .u8 6) := by rw [Lib.cell_of_heap hg]; rfl
  have q1 : ((l.length : Int) == 0) = false := by cases l with | nil => exact absurd rfl hl | cons x l => simp; omega
  clear hg hv hvF ha hl KA
  go_enter Tryz.func21, Tryz.ntmps21
  go_wp2_with fail
  refine KC.out.mono ?_
  intro e w1 he
  obtain ⟨y, rfl⟩ := he.ret
  have HE := Lib.hid he
  clear he
  go_wp2
  go_ret
  exact HE.out
theorem mends_any (s : ByteArray) (hs : s.size ≤ 60) : ∀ e : Ex, e.Wf → EndsK s e
  | .empty, _ => mends_empty s
  | .eps, _ => mends_eps s
  | .cls t, h => mends_cls s hs t h.1
  | .seq a b, h => mends_seq s a b (mends_any s hs a h.1) (mends_any s hs b h.2)
  | .alt a b, h => mends_alt s hs a b (mends_any s hs a h.1) (mends_any s hs b h.2)
  | .star a, h => mends_star s hs a (mends_any s hs a h)
end Go.Proofs.YtiegejbbjlhpdaaGreatDoor
