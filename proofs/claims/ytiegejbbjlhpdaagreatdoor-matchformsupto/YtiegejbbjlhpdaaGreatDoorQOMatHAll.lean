/- Lemmas of mine, merged: QOMatH, QOMatI, QOMatN, QOMatJ. -/
import Derived.Test.YtiegejbbjlhpdaaGreatDoorQOMatFAll
import Derived.Test.YtiegejbbjlhpdaaGreatDoorQORexBAll
import Derived.Test.YtiegejbbjlhpdaaGreatDoorQOSetEAll
import Derived.Test.YtiegejbbjlhpdaaGreatDoorQORexKAll
import Derived.Laws.DeepStrings4
/- Lemmas of mine. -/
namespace Go.Proofs.YtiegejbbjlhpdaaGreatDoor
open Go.RowKit
def NoP : Nat → Prop := fun _ => False
theorem endsP_no (e : Ex) (s : List UInt8) : EndsP e s NoP = NoP := by
  funext j
  exact propext ⟨fun ⟨_, _, _, h, _⟩ => h, fun h => h.elim⟩
def NotI (w : World) (z : Nat) : Prop := ∀ cur, w.heap[z]? ≠ some (.cells cur 3)
theorem notI_of {w : World} {z : Nat} {cur : Array Value} {ty : TypeId} (h : w.heap[z]? = some (.cells cur ty)) (hne : ty ≠ 3) : NotI w z := fun cur' h' => by
  rw [h] at h'
  injection h' with h'
  injection h' with _ h'
  exact hne h'
def Part0 (e : Ex) (w : World) (g : Nat) (F : Nat → Prop) : Prop := (∀ s, PartAt s e NoP w g F) ∧ ∀ z, F z → NotI w z
theorem Part0.go {e : Ex} {w w' : World} {g : Nat} {F : Nat → Prop} (h : Part0 e w g F) (hs : w.heap.size ≤ w'.heap.size) (hk : ∀ x, F x → w'.heap[x]? = w.heap[x]?) : Part0 e w' g F := ⟨fun s => (h.1 s).go e hs hk, fun z hz cur => by rw [hk z hz]; exact h.2 z hz cur⟩
theorem Part0.lt {e : Ex} {w : World} {g : Nat} {F : Nat → Prop} (h : Part0 e w g F) : ∀ x, F x → x < w.heap.size := (h.1 []).lt
theorem Part0.below {e : Ex} {w w' : World} {g : Nat} {F : Nat → Prop} (h : Part0 e w g F) (hb : Below w.heap.size w w') : Part0 e w' g F := h.go hb.size fun x hx => hb.block x (h.lt x hx)
def PartPost (e : Ex) (w : World) (x : Ending) (w' : World) : Prop := ∃ y, x = .returned y ∧ (∃ g F, y = .pointer (some ⟨g, 0, none⟩) ∧ Part0 e w' g F ∧ ∀ z, F z → w.heap.size ≤ z) ∧ Below w.heap.size w w'
def PartC (e : Ex) : Prop := ∀ (ok : Nat → Prop) (v : Value) (w : World), ReAt ok w v e.rx → Calls Tryz.prog 20 #[v] w (PartPost e w)
theorem rx_form10 (e : Ex) : ∃ k s ks, e.rx = .node k s ks := by cases e <;> exact ⟨_, _, _, rfl⟩
def ptrsL (gs : Nat → Nat) (i : Nat) : List Value := (List.range i).map fun j => Value.pointer (some ⟨gs j, 0, none⟩)
theorem ptrsL_snoc (gs : Nat → Nat) (i g : Nat) : ptrsL (fun j => if j = i then g else gs j) (i + 1) = ptrsL gs i ++ [.pointer (some ⟨g, 0, none⟩)] := by
  unfold ptrsL
  rw [List.range_succ, List.map_append]
  congr 1
  · refine List.map_congr_left fun j hj => ?_
    have : j ≠ i := by have := List.mem_range.1 hj; omega
    simp [this]
  · simp
set_option maxRecDepth 100000 in
theorem infoPt : (Tryz.prog.info? 54).map (fun i => (i.zero, i.size, i.bytes)) = some (some (.pointer none), 1, 8) := by kernel_rfl
set_option maxRecDepth 100000 in
theorem uPts : Tryz.prog.underlying 73 = some (.slice 54) := by kernel_rfl
theorem wp_append_at {P : Program} {w : World} {o : Oper} {a : Act} {K : Act → World → Prop} {Q : Exit → Act → World → Prop} (s x : Operand) (t : TypeId)
    (ho : o.op = .call { callee := .builtin .append, args := #[s, x], argTypes := #[t, t] })
    (base : Nat) (e : TypeId) (i : TypeInfo) (z : Value) (size bytes : Nat) (ht : P.underlying t = some (.slice e)) (hi : P.info? e = some i) (hz : i.zero = some z)
    (hsize : i.size = size) (hby : i.bytes = bytes) (hzs : z.cells.size = size) (hsz : 0 < size)
    (v : Value) (n : Nat) (xs : List Value) (hs : a.eval s = v) (hown : w.ownsRow base e size v n xs)
    (ad : Addr) (m c : Nat) (news : List Value) (hx : a.eval x = .slice (some ad) m c) (hl : news.length = m * size) (hnews : ∀ j u, news[j]? = some u → w.cell? (ad.add j) = some u) (h1 : ∀ u ∈ news, u.oneCell' = true)
    (h63 : n + m ≤ maxLen) (hbytes : (n + m) * bytes ≤ 140737488355328) (hbase : base ≤ w.heap.size) (hm : 0 < m)
    (h : ∀ v' w', w'.ownsRow base e size v' (n + m) (xs ++ news) → w.grownBy w' v.ownBlock → (v'.ownBlock = v.ownBlock ∨ v'.ownBlock = some w.heap.size) → K (a.put o.dst v') w') : o.wp P a w K Q := by
  obtain ⟨v', w', hr, h2, h3, h4⟩ := run_append_at (P := P) w base t o.type e i z size bytes ht hi hz hsize hby hzs hsz v n xs hown ad m c news hl hnews h1 h63 hbytes hbase hm
  unfold Oper.wp execOp
  simp only [ho, resolve, invoke, builtin, Sem.run_bind, Sem.run_pure, Result.andThen_ok, List.map_toArray, List.map_cons, List.map_nil, hs, hx, hr]
  exact h v' w' h2 h3 h4
structure PartI (w : World) (pg : Nat) (kk sa sb sc sd : Nat) (al0 : Option Addr) (n0 cap0 : Nat) (es : List Ex) (i : Nat) (kv : Value) (gs : Nat → Nat) (Fs : Nat → Nat → Prop) (W : World) : Prop where
  le : i ≤ es.length
  nd : W.heap[pg]? = some (.cells #[.int .u8 kk, .int .u64 sa, .int .u64 sb, .int .u64 sc, .int .u64 sd, .slice al0 n0 cap0, kv, .slice none 0 0] 75)
  row : W.ownsRow 0 54 1 kv i (ptrsL gs i)
  kb : ∀ k, kv.ownBlock = some k → pg < k ∧ ∀ j, j < i → ¬ Fs j k
  part : ∀ j (h : j < es.length), j < i → Part0 es[j] W (gs j) (Fs j)
  new : ∀ j z, j < i → Fs j z → pg < z
  apart : ∀ j j' z, j < j' → j' < i → Fs j z → ¬ Fs j' z
  bel : Below w.heap.size w W
theorem own_ptr_shape {w : World} {v : Value} {n : Nat} {xs : List Value} (h : w.ownsRow 0 54 1 v n xs) : ∃ p q c, v = .slice p q c := by
  rcases h.2 with ⟨rfl, _⟩ | ⟨g, cap, cur, rfl, _⟩
  · exact ⟨_, _, _, rfl⟩
  · exact ⟨_, _, _, rfl⟩
theorem own_ptr_lt {w : World} {v : Value} {n : Nat} {xs : List Value} (h : w.ownsRow 0 54 1 v n xs) {k : Nat} (hk : v.ownBlock = some k) : k < w.heap.size := by
  rcases h.2 with ⟨rfl, _⟩ | ⟨g, cap, cur, rfl, _, hg, _⟩
  · cases hk
  · injection hk with hk
    rw [← hk]
    exact (Array.getElem?_eq_some_iff.1 hg).1
theorem own_ptr_go {w w' : World} {v : Value} {n : Nat} {xs : List Value} (h : w.ownsRow 0 54 1 v n xs) (hk : ∀ k, v.ownBlock = some k → w'.heap[k]? = w.heap[k]?) : w'.ownsRow 0 54 1 v n xs := by
  refine ⟨h.1, ?_⟩
  rcases h.2 with h2 | ⟨g, cap, cur, rfl, hb, hg, r⟩
  · exact .inl h2
  · exact .inr ⟨g, cap, cur, rfl, hb, (hk g rfl).trans hg, r⟩
theorem own_ptrs {w : World} {v : Value} {gs : Nat → Nat} {n : Nat} (h : w.ownsRow 0 54 1 v n (ptrsL gs n)) (hn : 0 < n) : ∃ k c, v = .slice (some ⟨k, 0, none⟩) n c ∧ Ptrs w k ((List.range n).map gs) ∧ NotI w k := by
  rcases h.2 with ⟨_, h2⟩ | ⟨g, cap, cur, rfl, _, hg, h1, h2, h3, h4⟩
  · omega
  · refine ⟨g, cap, rfl, ⟨cur, hg, fun j hj => ?_⟩, notI_of hg (by decide)⟩
    simp at hj
    have : (cur.toList.take (n * 1))[j]? = some (Value.pointer (some ⟨gs j, 0, none⟩)) := by rw [h4]; simp [ptrsL, hj]
    rw [List.getElem?_take, if_pos (by omega)] at this
    simpa using this
def SP.part (em : Ex) (B : Nat) : SP := ⟨fun x W => ∃ g2 F2, x = .pointer (some ⟨g2, 0, none⟩) ∧ Part0 em W g2 F2 ∧ ∀ z, F2 z → B ≤ z, fun _ _ _ ⟨g2, F2, h1, h2, h3⟩ hb => ⟨g2, F2, h1, h2.below hb, h3⟩⟩
def SP.prow (em : Ex) (B : Nat) : SP := ⟨fun x W => ∃ bb g3 F3, x = .slice (some ⟨bb, 0, none⟩) 1 1 ∧ B ≤ bb ∧ W.heap[bb]? = some (.cells #[.pointer (some ⟨g3, 0, none⟩)] 54) ∧ Part0 em W g3 F3 ∧ (∀ z, F3 z → B ≤ z) ∧ ¬ F3 bb,
  fun _ _ _ ⟨bb, g3, F3, h1, h2, h3, h4, h5, h6⟩ hb => ⟨bb, g3, F3, h1, h2, (hb.block bb (Array.getElem?_eq_some_iff.1 h3).1).trans h3, h4.below hb, h5, h6⟩⟩
def partInv (w : World) (pg : Nat) (kk sa sb sc sd : Nat) (al0 : Option Addr) (n0 cap0 : Nat) (es : List Ex) (y12 : Value) (W : World) : Prop := ∃ i kv gs Fs, y12 = .int .i64 (i : Nat) ∧ PartI w pg kk sa sb sc sd al0 n0 cap0 es i kv gs Fs W
theorem part_done {w : World} {pg kk : Nat} {t : Ws} {al0 : Option Addr} {n0 cap0 : Nat} {es : List Ex} {kv : Value} {gs : Nat → Nat} {Fs : Nat → Nat → Prop} {W : World} (hpg : w.heap.size ≤ pg) (h : PartI w pg kk t.a t.b t.c t.d al0 n0 cap0 es es.length kv gs Fs W) (e : Ex) (he : e.rx = .node kk t (es.map Ex.rx)) :
    ∃ F, Part0 e W pg F ∧ ∀ z, F z → w.heap.size ≤ z := by
  have hpl : pg < W.heap.size := (Array.getElem?_eq_some_iff.1 h.nd).1
  have hnp : NotI W pg := notI_of h.nd (by decide)
  cases e with
  | empty =>
    simp only [Ex.rx] at he
    injection he with e1 e2 e3
    subst e1 e2
    exact ⟨fun z => z = pg, ⟨fun s => ⟨rfl, fun x hx => by omega, kv, _, _, h.nd⟩, fun z hz => by rw [hz]; exact hnp⟩, fun z hz => by omega⟩
  | eps =>
    simp only [Ex.rx] at he
    injection he with e1 e2 e3
    subst e1 e2
    exact ⟨fun z => z = pg, ⟨fun s => ⟨rfl, fun x hx => by omega, kv, _, _, h.nd⟩, fun z hz => by rw [hz]; exact hnp⟩, fun z hz => by omega⟩
  | cls t =>
    simp only [Ex.rx] at he
    injection he with e1 e2 e3
    subst e1 e2
    exact ⟨fun z => z = pg, ⟨fun s => ⟨rfl, fun x hx => by omega, kv, _, _, h.nd⟩, fun z hz => by rw [hz]; exact hnp⟩, fun z hz => by omega⟩
  | seq a b =>
    simp only [Ex.rx] at he
    injection he with e1 e2 e3
    subst e1 e2
    match es, e3, h with
    | [a', b'], e3, h =>
      simp at e3
      obtain rfl := Ex.rx_inj _ _ e3.1
      obtain rfl := Ex.rx_inj _ _ e3.2
      obtain ⟨k, kc, rfl, hP, hnk⟩ := own_ptrs (n := 2) h.row (by decide)
      have hk := h.kb k rfl
      have hkl := own_ptr_lt h.row (k := k) rfl
      have p0 := h.part 0 (by simp) (by simp)
      have p1 := h.part 1 (by simp) (by simp)
      refine ⟨fun z => z = pg ∨ z = k ∨ Fs 0 z ∨ Fs 1 z, ⟨fun s => ⟨.inl rfl, fun x hx => ?_, _, k, kc, gs 0, gs 1, Fs 0, Fs 1, ⟨_, h.nd⟩, hP, .inr (.inl rfl), by omega, p0.1 s, ?_, fun x hx => ⟨.inr (.inr (.inl hx)), ?_, ?_, ?_⟩, fun x hx => ⟨.inr (.inr (.inr hx)), ?_, ?_⟩⟩, fun z hz => ?_⟩, fun z hz => ?_⟩
      · rcases hx with h' | h' | h' | h'
        · omega
        · omega
        · exact p0.lt x h'
        · exact p1.lt x h'
      · rw [endsP_no]; exact p1.1 s
      · have := h.new 0 x (by simp) hx; omega
      · exact fun e => hk.2 0 (by simp) (by rw [← e]; exact hx)
      · exact h.apart 0 1 x (by decide) (by simp) hx
      · have := h.new 1 x (by simp) hx; omega
      · exact fun e => hk.2 1 (by simp) (by rw [← e]; exact hx)
      · rcases hz with h' | h' | h' | h'
        · rw [h']; exact hnp
        · rw [h']; exact hnk
        · exact p0.2 z h'
        · exact p1.2 z h'
      · rcases hz with h' | h' | h' | h'
        · omega
        · omega
        · have := h.new 0 z (by simp) h'; omega
        · have := h.new 1 z (by simp) h'; omega
    | [], e3, _ => simp at e3
    | [_], e3, _ => simp at e3
    | _ :: _ :: _ :: _, e3, _ => simp at e3
  | alt a b =>
    simp only [Ex.rx] at he
    injection he with e1 e2 e3
    subst e1 e2
    match es, e3, h with
    | [a', b'], e3, h =>
      simp at e3
      obtain rfl := Ex.rx_inj _ _ e3.1
      obtain rfl := Ex.rx_inj _ _ e3.2
      obtain ⟨k, kc, rfl, hP, hnk⟩ := own_ptrs (n := 2) h.row (by decide)
      have hk := h.kb k rfl
      have hkl := own_ptr_lt h.row (k := k) rfl
      have p0 := h.part 0 (by simp) (by simp)
      have p1 := h.part 1 (by simp) (by simp)
      refine ⟨fun z => z = pg ∨ z = k ∨ Fs 0 z ∨ Fs 1 z, ⟨fun s => ⟨.inl rfl, fun x hx => ?_, _, k, kc, gs 0, gs 1, Fs 0, Fs 1, ⟨_, h.nd⟩, hP, .inr (.inl rfl), by omega, p0.1 s, p1.1 s, fun x hx => ⟨.inr (.inr (.inl hx)), ?_, ?_, ?_⟩, fun x hx => ⟨.inr (.inr (.inr hx)), ?_, ?_⟩, .inl ⟨rfl, fun i hi => by rw [endsP_no] at hi; exact hi⟩, fun t ht => by cases ht⟩, fun z hz => ?_⟩, fun z hz => ?_⟩
      · rcases hx with h' | h' | h' | h'
        · omega
        · omega
        · exact p0.lt x h'
        · exact p1.lt x h'
      · have := h.new 0 x (by simp) hx; omega
      · exact fun e => hk.2 0 (by simp) (by rw [← e]; exact hx)
      · exact h.apart 0 1 x (by decide) (by simp) hx
      · have := h.new 1 x (by simp) hx; omega
      · exact fun e => hk.2 1 (by simp) (by rw [← e]; exact hx)
      · rcases hz with h' | h' | h' | h'
        · rw [h']; exact hnp
        · rw [h']; exact hnk
        · exact p0.2 z h'
        · exact p1.2 z h'
      · rcases hz with h' | h' | h' | h'
        · omega
        · omega
        · have := h.new 0 z (by simp) h'; omega
        · have := h.new 1 z (by simp) h'; omega
    | [], e3, _ => simp at e3
    | [_], e3, _ => simp at e3
    | _ :: _ :: _ :: _, e3, _ => simp at e3
  | star a =>
    simp only [Ex.rx] at he
    injection he with e1 e2 e3
    subst e1 e2
    match es, e3, h with
    | [a'], e3, h =>
      simp at e3
      obtain rfl := Ex.rx_inj _ _ e3
      obtain ⟨k, kc, rfl, hP, hnk⟩ := own_ptrs (n := 1) h.row (by decide)
      have hk := h.kb k rfl
      have hkl := own_ptr_lt h.row (k := k) rfl
      have p0 := h.part 0 (by simp) (by simp)
      refine ⟨fun z => z = pg ∨ z = k ∨ Fs 0 z, ⟨fun s => ⟨.inl rfl, fun x hx => ?_, _, k, kc, gs 0, Fs 0, ⟨_, h.nd⟩, hP, .inr (.inl rfl), by omega, ?_, fun x hx => ⟨.inr (.inr hx), ?_, ?_⟩, .inl ⟨rfl, fun i hi => by rw [endsP_no] at hi; exact hi⟩, fun t ht => by cases ht⟩, fun z hz => ?_⟩, fun z hz => ?_⟩
      · rcases hx with h' | h' | h'
        · omega
        · omega
        · exact p0.lt x h'
      · rw [endsP_no]; exact p0.1 s
      · have := h.new 0 x (by simp) hx; omega
      · exact fun e => hk.2 0 (by simp) (by rw [← e]; exact hx)
      · rcases hz with h' | h' | h'
        · rw [h']; exact hnp
        · rw [h']; exact hnk
        · exact p0.2 z h'
      · rcases hz with h' | h' | h'
        · omega
        · omega
        · have := h.new 0 z (by simp) h'; omega
    | [], e3, _ => simp at e3
    | _ :: _ :: _, e3, _ => simp at e3
set_option maxRecDepth 100000 in
set_option maxHeartbeats 4000000 in
theorem part_node (e : Ex) (kk : Nat) (t : Ws) (es : List Ex) (he : e.rx = .node kk t (es.map Ex.rx)) (KS : ∀ em ∈ es, PartC em) : PartC e := by
  intro ok v w h
  have HA := h
  rw [he] at h
  unfold ReAt at h
  obtain ⟨hk, hsok, al, cap, rfl, hcap, hlen, hrow⟩ := h
  rw [List.length_map] at hcap hlen
  rw [List.length_map]
  obtain ⟨sa, sb, sc, sd⟩ := t
  simp only
  obtain ⟨n, hn⟩ : ∃ n, n = es.length := ⟨_, rfl⟩
  rw [← hn]
  obtain ⟨W0, hW0⟩ : ∃ W0, W0 = (w.alloc (.cells #[.int .u8 kk, .int .u64 sa, .int .u64 sb, .int .u64 sc, .int .u64 sd, .slice al n cap] 27)).alloc (.cells #[.int .u8 kk, .int .u64 sa, .int .u64 sb, .int .u64 sc, .int .u64 sd, .slice al n cap, .slice none 0 0, .slice none 0 0] 75) := ⟨_, rfl⟩
  obtain ⟨pg, hpg⟩ : ∃ pg, pg = w.heap.size + 1 := ⟨_, rfl⟩
  have hst : PartI w pg kk sa sb sc sd al n cap es 0 (.slice none 0 0) (fun _ => 0) (fun _ _ => False) W0 := by
    have hb : Below w.heap.size w W0 := by rw [hW0]; exact ((Below.refl _ w).alloc (Nat.le_refl _) _).alloc (by simp) _
    refine ⟨Nat.zero_le _, ?_, ⟨rfl, .inl ⟨rfl, rfl⟩⟩, fun k hk => (by cases hk), fun j _ hj => absurd hj (Nat.not_lt_zero _), fun j z hj => absurd hj (Nat.not_lt_zero _), fun j j' z _ hj => absurd hj (Nat.not_lt_zero _), hb⟩
    rw [hW0, hpg]
    have := blk_new (w.alloc (.cells #[.int .u8 kk, .int .u64 sa, .int .u64 sb, .int .u64 sc, .int .u64 sd, .slice al n cap] 27)) (.cells #[.int .u8 kk, .int .u64 sa, .int .u64 sb, .int .u64 sc, .int .u64 sd, .slice al n cap, .slice none 0 0, .slice none 0 0] 75)
    simpa using this
  have HST := Lib.hid hst
  have HROW := Lib.hid hrow
  have HN := Lib.hid hn
  have HPG := Lib.hid hpg
  have HW0 := Lib.hid hW0
  have HE := Lib.hid he
  have HNL : Hid (n < 2199023255552) := Lib.hid (by omega)
  clear hst hrow HA hn hpg hW0 he hcap hlen
  go_enter Tryz.func20, Tryz.ntmps20
  go_wp2_with fail
  rw [← HW0.out, ← HPG.out]
  go_loopw [12] (fun y12 wr => partInv w pg kk sa sb sc sd al n cap es y12 wr) (fun y12 _ => n - (intOf y12).toNat)
  case atStart => exact ⟨0, _, _, _, rfl, HST.out⟩
  case round =>
    clear HST
    obtain ⟨i, kv, gs, Fs, rfl, hI⟩ := hrel
    have HI := Lib.hid hI
    by_cases hlt : i < es.length
    · have q1 : (i : Int) < (n : Int) := by have := HN.out; omega
      obtain ⟨b, off, hal, hblt, hnode⟩ := HROW.out.kid (i := i) (by rw [List.length_map]; exact hlt)
      obtain ⟨em, hem⟩ : ∃ em, em = es[i] := ⟨_, rfl⟩
      rw [List.getElem_map, ← hem] at hnode
      have KM := KS em (by rw [hem]; exact List.getElem_mem hlt)
      obtain ⟨ky, ⟨ya, yb, yc, yd⟩, kys, hy⟩ := rx_form10 em
      unfold PartC at KM
      rw [hy] at hnode KM
      obtain ⟨yl, ycap, ⟨i0, i1, i2, i3, i4, i5⟩, hre⟩ := hnode.read
      simp only at i0 i1 i2 i3 i4 i5 hre
      have hbr := hI.bel
      have hpgl : pg < wr.heap.size := (Array.getElem?_eq_some_iff.1 hI.nd).1
      obtain ⟨W1, hW1⟩ : ∃ W1, W1 = wr.alloc (.cells #[.int .u8 ky, .int .u64 ya, .int .u64 yb, .int .u64 yc, .int .u64 yd, .slice yl kys.length ycap] 27) := ⟨_, rfl⟩
      have hb1 : Below wr.heap.size wr W1 := by rw [hW1]; exact bel_al _ _
      have hs1 : W1.heap.size = wr.heap.size + 1 := by rw [hW1]; simp
      have hv1 : W1.heap[wr.heap.size]? = some (.cells #[.int .u8 ky, .int .u64 ya, .int .u64 yb, .int .u64 yc, .int .u64 yd, .slice yl kys.length ycap] 27) := by rw [hW1]; exact blk_new _ _
      have hbw : Below w.heap.size w W1 := hbr.trans (hb1.mono hbr.size)
      rw [hbr.cell (p := ⟨b, off + i * 6, none⟩) hblt |>.symm] at i0
      rw [hbr.cell (p := ⟨b, off + i * 6 + 1, none⟩) hblt |>.symm] at i1
      rw [hbr.cell (p := ⟨b, off + i * 6 + 2, none⟩) hblt |>.symm] at i2
      rw [hbr.cell (p := ⟨b, off + i * 6 + 3, none⟩) hblt |>.symm] at i3
      rw [hbr.cell (p := ⟨b, off + i * 6 + 4, none⟩) hblt |>.symm] at i4
      rw [hbr.cell (p := ⟨b, off + i * 6 + 5, none⟩) hblt |>.symm] at i5
      obtain ⟨kp, kq, kc, rfl⟩ := own_ptr_shape hI.row
      have hnd1 : W1.heap[pg]? = some (.cells #[.int .u8 kk, .int .u64 sa, .int .u64 sb, .int .u64 sc, .int .u64 sd, .slice al n cap, .slice kp kq kc, .slice none 0 0] 75) := (hb1.block pg hpgl).trans hI.nd
      have KVC := Lib.hid fun (x : World) (hx : Below W1.heap.size W1 x) => show x.cell? ⟨pg, 6, none⟩ = some (.slice kp kq kc) from by
        rw [Lib.cell_of_heap ((hx.block pg (by omega)).trans hnd1)]; rfl
      have VBC := Lib.hid fun (x : World) (hx : Below W1.heap.size W1 x) => cellsR ((hx.block wr.heap.size (by omega)).trans hv1)
      have KK := Lib.hid fun (x : World) (hx : Below W1.heap.size W1 x) => (KM ok (.agg #[.int .u8 ky, .int .u64 ya, .int .u64 yb, .int .u64 yc, .int .u64 yd, .slice yl kys.length ycap]) x ((hre.below hbw).below hx)).mono fun e w2 h => show ∃ y, e = .returned y ∧ (∃ g2 F2, y = .pointer (some ⟨g2, 0, none⟩) ∧ Part0 em w2 g2 F2 ∧ ∀ z, F2 z → W1.heap.size ≤ z) ∧ Below x.heap.size x w2 from by
        obtain ⟨y, e1, ⟨g2, F2, h1, h2, h3⟩, h4⟩ := h
        exact ⟨y, e1, ⟨g2, F2, h1, h2, fun z hz => Nat.le_trans hx.size (h3 z hz)⟩, h4⟩
      have NEWB := Lib.hid fun (g2 : Nat) (F2 : Nat → Prop) (x : World) (hx : W1.heap.size ≤ x.heap.size) (h : Part0 em x g2 F2 ∧ ∀ z, F2 z → W1.heap.size ≤ z) => show ∃ bb g3 F3, Value.slice (some ⟨x.heap.size, 0, none⟩) 1 1 = .slice (some ⟨bb, 0, none⟩) 1 1 ∧ W1.heap.size ≤ bb ∧ (x.alloc (.cells #[.pointer (some ⟨g2, 0, none⟩)] 54)).heap[bb]? = some (.cells #[.pointer (some ⟨g3, 0, none⟩)] 54) ∧ Part0 em (x.alloc (.cells #[.pointer (some ⟨g2, 0, none⟩)] 54)) g3 F3 ∧ (∀ z, F3 z → W1.heap.size ≤ z) ∧ ¬ F3 bb from
        ⟨x.heap.size, g2, F2, rfl, hx, blk_new _ _, h.1.below (bel_al _ _), h.2, fun hz => by have := h.1.lt _ hz; omega⟩
      have hkvb : ∀ k, (Value.slice kp kq kc).ownBlock = some k → pg < k ∧ k < wr.heap.size := fun k hk => ⟨(hI.kb k hk).1, own_ptr_lt hI.row hk⟩
      have APP0 : ∀ (o : Oper) (y23 : Value) (x : World), Below W1.heap.size W1 x → (∃ bb g3 F3, y23 = .slice (some ⟨bb, 0, none⟩) 1 1 ∧ W1.heap.size ≤ bb ∧ x.heap[bb]? = some (.cells #[.pointer (some ⟨g3, 0, none⟩)] 54) ∧ Part0 em x g3 F3 ∧ (∀ z, F3 z → W1.heap.size ≤ z) ∧ ¬ F3 bb) →
          ∀ (ac : Act) (K : Act → World → Prop) (Q : Exit → Act → World → Prop), o.op = .call { callee := .builtin .append, args := #[.tmp 20, .tmp 23], argTypes := #[73, 73] } → ac.eval (.tmp 20) = .slice kp kq kc → ac.eval (.tmp 23) = y23 →
          (∀ v2 w2, (∃ g2 F2, w2.ownsRow 0 54 1 v2 (i + 1) (ptrsL gs i ++ [.pointer (some ⟨g2, 0, none⟩)]) ∧ Part0 em w2 g2 F2 ∧ (∀ z, F2 z → W1.heap.size ≤ z) ∧ (∀ k, v2.ownBlock = some k → ¬ F2 k ∧ ((Value.slice kp kq kc).ownBlock = some k ∨ W1.heap.size ≤ k)) ∧ Fm (fun z => (Value.slice kp kq kc).ownBlock = some z) W1 w2) → K (ac.put o.dst v2) w2) → o.wp Tryz.prog ac x K Q := by
        rintro o _ x hx ⟨bb, g3, F3, rfl, hbb, hc, hp, hF, hnb⟩ ac K Q ho e20 e23 hK
        obtain ⟨i0, hi0, hz0, hz1, hz2⟩ := info_parts infoPt
        have hxs := hx.size
        have hrow : x.ownsRow 0 54 1 (.slice kp kq kc) i (ptrsL gs i) := own_ptr_go hI.row fun k hk => (hx.block k (by have := hkvb k hk; omega)).trans (hb1.block k (hkvb k hk).2)
        refine wp_append_at (.tmp 20) (.tmp 23) 73 ho 0 54 i0 (.pointer none) 1 8 uPts hi0 hz0 hz1 hz2 rfl (by decide) (.slice kp kq kc) i (ptrsL gs i) e20 hrow ⟨bb, 0, none⟩ 1 1 [.pointer (some ⟨g3, 0, none⟩)] e23 rfl ?_ ?_ (by have := HN.out; have := HNL.out; unfold maxLen; omega) (by have := HN.out; have := HNL.out; omega) (Nat.zero_le _) (by decide) fun v2 w2 g1 g2 g4 => hK v2 w2 ⟨g3, F3, g1, hp.go g2.size fun z hz => g2.block z (hp.lt z hz) fun e => ?_, hF, fun k hk => ?_, (Fm.below hx).then (Fm.grown (X := fun z => (Value.slice kp kq kc).ownBlock = some z) g2 fun z hz => hz) fun z _ hz => hz⟩
        · intro j u hu
          match j, hu with
          | 0, hu => simp at hu; subst hu; rw [Go.WideShapes.add_plain, Lib.cell_of_heap hc]; rfl
        · intro u hu; simp at hu; subst hu; rfl
        · have h1 := hkvb z e.symm
          have h2 := hF z hz
          omega
        · rcases g4 with e | e
          · rw [e] at hk
            exact ⟨fun h => by have := hkvb k hk; have := hF k h; omega, .inl hk⟩
          · rw [e] at hk
            injection hk with hk
            exact ⟨fun h => by have := hp.lt k h; omega, .inr (by omega)⟩
      have STO0 : ∀ (v2 : Value) (X : World), (∃ g2 F2, X.ownsRow 0 54 1 v2 (i + 1) (ptrsL gs i ++ [.pointer (some ⟨g2, 0, none⟩)]) ∧ Part0 em X g2 F2 ∧ (∀ z, F2 z → W1.heap.size ≤ z) ∧ (∀ k, v2.ownBlock = some k → ¬ F2 k ∧ ((Value.slice kp kq kc).ownBlock = some k ∨ W1.heap.size ≤ k)) ∧ Fm (fun z => (Value.slice kp kq kc).ownBlock = some z) W1 X) →
          ∃ k2 kc2, v2 = .slice (some ⟨k2, 0, none⟩) (i + 1) kc2 ∧ X.cell? ⟨pg, 6, none⟩ = some (.slice kp kq kc) ∧ X.frozen? ⟨pg, 6, none⟩ = false ∧ ∃ kv' gs' Fs', PartI w pg kk sa sb sc sd al n cap es (i + 1) kv' gs' Fs' (X.setCell ⟨pg, 6, none⟩ v2) := by
        rintro v2 X ⟨g2, F2, h1, h2, h3, h4, h5⟩
        have hXs := h5.size
        have hpX : X.heap[pg]? = some (.cells #[.int .u8 kk, .int .u64 sa, .int .u64 sb, .int .u64 sc, .int .u64 sd, .slice al n cap, .slice kp kq kc, .slice none 0 0] 75) := (h5.block pg (by omega) fun e => by have := hkvb pg e; omega).trans hnd1
        have hv2 : ∀ k, v2.ownBlock = some k → pg < k := fun k hk => by
          rcases (h4 k hk).2 with h | h
          · exact (hkvb k h).1
          · omega
        have hFs : ∀ j z, j < i → Fs j z → z < wr.heap.size := fun j z hj hz => (hI.part j (by omega) hj).lt z hz
        obtain ⟨k2, kc2, hv⟩ : ∃ k2 kc2, v2 = .slice (some ⟨k2, 0, none⟩) (i + 1) kc2 := by
          rcases h1.2 with ⟨_, h⟩ | ⟨g, cap, _, h, _⟩
          · omega
          · exact ⟨g, cap, h⟩
        refine ⟨k2, kc2, hv, by rw [Lib.cell_of_heap hpX]; rfl, Lib.frozen_of_heap hpX 6, v2, (fun j => if j = i then g2 else gs j), (fun j z => if j = i then F2 z else Fs j z), ?_⟩
        have hset : ∀ z, z ≠ pg → (X.setCell ⟨pg, 6, none⟩ v2).heap[z]? = X.heap[z]? := fun z hz => Below.heap_setCell _ _ _ _ hz
        refine ⟨hlt, ?_, ?_, fun k hk => ⟨hv2 k hk, fun j hj => ?_⟩, fun j hj hji => ?_, fun j z hj hz => ?_, fun j j' z hjj hj hz => ?_, ?_⟩
        · simp [World.setCell, Array.getElem?_modify, hpX]
        · rw [ptrsL_snoc]
          exact own_ptr_go h1 fun k hk => hset k (by have := hv2 k hk; omega)
        · by_cases e : j = i
          · simp only [e, if_true]; exact (h4 k hk).1
          · simp only [if_neg e]
            rcases (h4 k hk).2 with h | h
            · exact (hI.kb k h).2 j (by omega)
            · exact fun hz => by have := hFs j k (by omega) hz; omega
        · by_cases e : j = i
          · subst e
            simp only [if_true]
            rw [← hem]
            exact h2.go (by simp [World.setCell]) fun z hz => hset z (by have := h3 z hz; omega)
          · simp only [if_neg e]
            have hp := hI.part j hj (by omega)
            refine hp.go (by simp [World.setCell]; omega) fun z hz => (hset z (by have := hI.new j z (by omega) hz; omega)).trans ((h5.block z (by have := hp.lt z hz; omega) fun e2 => ?_).trans (hb1.block z (hp.lt z hz)))
            exact (hI.kb z e2).2 j (by omega) hz
        · by_cases e : j = i
          · simp only [e, if_true] at hz; have := h3 z hz; omega
          · simp only [if_neg e] at hz; exact hI.new j z (by omega) hz
        · have hji : j ≠ i := by omega
          simp only [if_neg hji] at hz
          by_cases e : j' = i
          · simp only [e, if_true]
            exact fun h => by have := h3 z h; have := hFs j z (by omega) hz; omega
          · simp only [if_neg e]
            exact hI.apart j j' z hjj (by omega) hz
        · have hbs := hbr.size
          have hpgw : w.heap.size ≤ pg := by have := HPG.out; omega
          refine (hbw.trans ⟨h5.os, h5.tape, h5.output, h5.size, fun z hz => h5.block z (by omega) fun e => ?_⟩).setCell (p := ⟨pg, 6, none⟩) hpgw v2
          have := hkvb z e; omega
      have APP := Lib.hid APP0
      have STO := Lib.hid STO0
      have HW1 := Lib.hid hW1
      have HLT := Lib.hid hlt
      subst hal
      clear APP0 STO0 hW1 hkvb hnd1 hv1 hbw hb1 hs1 hnode hre KM hem hy hI hbr
      have hw64 : wrap64 ((i : Int) + 1) = (i : Int) + 1 := by have := HNL.out; have := HN.out; unfold wrap64; omega
      have HW := Lib.hid hw64
      clear hw64
      go_wp2_with fail
      rw [← HW1.out]
      clear HW1 i0 i1 i2 i3 i4 i5
      refine wp_region_orderX [8, 11] (fun i => if i = 8 then 2 else if i = 11 then 3 else if i = 4 then 0 else if i = 5 then 0 else if i = 6 then 0 else if i = 7 then 0 else 1)
        (fun j => ([SP.eq (.pointer (some ⟨pg, 0, none⟩)), SP.eq (.pointer (some ⟨pg, 0, none⟩)), SP.eq (.pointer (some ⟨pg, 0, none⟩)), SP.eq (.pointer (some ⟨pg, 6, none⟩)), SP.eq (.slice kp kq kc), SP.eq (.agg #[.int .u8 ky, .int .u64 ya, .int .u64 yb, .int .u64 yc, .int .u64 yd, .slice yl kys.length ycap]), SP.part em W1.heap.size, SP.prow em W1.heap.size, SP.free, SP.eq (.pointer (some ⟨pg, 0, none⟩)), SP.eq (.pointer (some ⟨pg, 6, none⟩)), SP.free] : List SP).getD j SP.free) (pv [some (.pointer (some ⟨pg, 0, none⟩)), some (.pointer (some ⟨pg, 0, none⟩)), some (.pointer (some ⟨pg, 0, none⟩)), some (.pointer (some ⟨pg, 6, none⟩)), none, none, none, none, none, some (.pointer (some ⟨pg, 0, none⟩)), some (.pointer (some ⟨pg, 6, none⟩)), none])
        (fun X => Below W1.heap.size W1 X) (fun _ => True)
        (fun m v X => match m with
          | 0 => ∃ g2 F2, X.ownsRow 0 54 1 v (i + 1) (ptrsL gs i ++ [.pointer (some ⟨g2, 0, none⟩)]) ∧ Part0 em X g2 F2 ∧ (∀ z, F2 z → W1.heap.size ≤ z) ∧ (∀ k, v.ownBlock = some k → ¬ F2 k ∧ ((Value.slice kp kq kc).ownBlock = some k ∨ W1.heap.size ≤ k)) ∧ Fm (fun z => (Value.slice kp kq kc).ownBlock = some z) W1 X
          | _ => ∃ kv' gs' Fs', PartI w pg kk sa sb sc sd (some ⟨b, off, none⟩) n cap es (i + 1) kv' gs' Fs' X)
        (Below.refl _ _).drew (fun _ _ => trivial) (fun _ _ _ _ => trivial) (fun X X2 h hb => h.trans (hb.mono h.size))
        (by
          intro j x X h
          match j, h with
          | 0, h => exact h
          | 1, h => exact h
          | 2, h => exact h
          | 3, h => exact h
          | 4, _ => trivial
          | 5, _ => trivial
          | 6, _ => trivial
          | 7, _ => trivial
          | 8, _ => trivial
          | 9, h => exact h
          | 10, h => exact h
          | 11, _ => trivial
          | n + 12, _ => trivial) (by kernel_rfl) (by kernel_rfl) ⟨?_, ?_, ?_, ?_, ?_, ?_, ?_, ?_, ?_, ?_, ?_, ?_, trivial⟩ ?_
      · intro a x K out get old hC hK
        rw [if_pos (wanted_none rfl)]
        have o3 : a.tmps[3]? = some (.pointer (some ⟨pg, 0, none⟩)) := out 3 (by kernel_rfl)
        clear out get old
        go_simp
        exact hK _ rfl (fun _ => rfl)
      · intro a x K out get old hC hK
        rw [if_pos (wanted_none rfl)]
        have o3 : a.tmps[3]? = some (.pointer (some ⟨pg, 0, none⟩)) := out 3 (by kernel_rfl)
        clear out get old
        go_simp
        exact hK _ rfl (fun _ => rfl)
      · intro a x K out get old hC hK
        rw [if_pos (wanted_none rfl)]
        obtain ⟨y17, hy17, rfl⟩ := get 1 _ _ rfl rfl (by kernel_rfl)
        clear out get old
        go_simp
        exact hK _ rfl (fun _ => rfl)
      · intro a x K out get old hC hK
        rw [if_pos (wanted_none rfl)]
        obtain ⟨y18, hy18, rfl⟩ := get 2 _ _ rfl rfl (by kernel_rfl)
        clear out get old
        go_simp
        exact hK _ rfl (fun _ => rfl)
      · intro a x K out get hJ hK
        rw [if_pos (wanted_none rfl)]
        obtain ⟨y19, hy19, rfl⟩ := get 3 _ _ rfl rfl (by kernel_rfl)
        have hc := KVC.out x hJ
        clear out get
        go_simp
        exact hK _ _ rfl (Below.refl _ _)
      · intro a x K out get hJ hK
        rw [if_pos (wanted_none rfl)]
        have o5 : a.tmps[5]? = some (.pointer (some ⟨wr.heap.size, 0, none⟩)) := out 5 (by kernel_rfl)
        obtain ⟨c0, c1, c2, c3, c4, c5, -⟩ := VBC.out x hJ
        clear out get
        go_simp
        exact hK _ _ rfl (Below.refl _ _)
      · intro a x K out get hJ hK
        rw [if_pos (wanted_none rfl)]
        obtain ⟨y21, hy21, rfl⟩ := get 5 _ _ rfl rfl (by kernel_rfl)
        clear out get
        go_simp
        refine (KK.out x hJ).mono ?_
        rintro e w2 ⟨y, e2, h2, hb2⟩
        subst e2
        exact hK _ _ h2 hb2
      · intro a x K out get hJ hK
        rw [if_pos (wanted_none rfl)]
        obtain ⟨y22, hy22, ⟨g2, F2, rfl, h2⟩⟩ := get 6 _ _ rfl rfl (by kernel_rfl)
        have hb2 := hJ.size
        have hN := NEWB.out g2 F2 x hb2 h2
        clear out get h2
        go_simp
        exact hK _ _ hN (bel_al _ _)
      · intro a x K out get hJ hK
        rw [if_pos (wanted_none rfl)]
        obtain ⟨y20, hy20, -, hp20⟩ := get 4 _ _ rfl rfl (by kernel_rfl)
        obtain rfl := hp20 rfl
        obtain ⟨y23, hy23, -, hp23⟩ := get 7 _ _ rfl rfl (by kernel_rfl)
        clear out get
        refine APP.out _ _ x hJ (hp23 rfl) a _ _ rfl (eval_tmp hy20) (eval_tmp hy23) fun v2 w2 h2 => ?_
        exact hK _ _ trivial h2
      · intro a x K out get old hC hK
        rw [if_pos (wanted_none rfl)]
        obtain ⟨y16, hy16, rfl⟩ := get 0 _ _ rfl rfl (by kernel_rfl)
        clear out get old
        go_simp
        exact hK _ rfl (fun _ => rfl)
      · intro a x K out get old hC hK
        rw [if_pos (wanted_none rfl)]
        obtain ⟨y25, hy25, rfl⟩ := get 9 _ _ rfl rfl (by kernel_rfl)
        clear out get old
        go_simp
        exact hK _ rfl (fun _ => rfl)
      · intro a x K out get hJ hK
        rw [if_pos (wanted_none rfl)]
        obtain ⟨y26, hy26, rfl, -⟩ := get 10 _ _ rfl rfl (by kernel_rfl)
        obtain ⟨y24, hy24, hG⟩ := hJ
        obtain ⟨k2, kc2, rfl, m1, m2, m3⟩ := STO.out _ _ hG
        clear out get
        go_simp
        exact hK (.bool true) _ trivial m3
      refine ao_finX (isD := fun s => decide (16 ≤ s) && decide (s ≤ 26)) 1 none rfl (by kernel_rfl) (by kernel_rfl) (by kernel_rfl) ?_
      intro f9 W2 hv hG hn
      obtain ⟨_, kv', gs', Fs', hPI⟩ := hn rfl
      have HE2 := Lib.hid hPI
      clear hv hG hn hPI KK NEWB APP STO KVC VBC
      simp only [frm]
      simp
      go_wp2
      rw [HW.out]
      exact ⟨⟨i + 1, kv', gs', Fs', by simp, HE2.out⟩, by have := HN.out; have := HLT.out; simp [intOf]; omega⟩
    · have q1 : ¬ (i : Int) < (n : Int) := by have := HN.out; omega
      have hil : i = es.length := by have := hI.le; omega
      have hPI := hI
      rw [hil] at hPI
      obtain ⟨F, hF, hnew⟩ := part_done (t := ⟨sa, sb, sc, sd⟩) (by have := HPG.out; omega : w.heap.size ≤ pg) hPI e HE.out
      have hend : PartPost e w (.returned (.pointer (some ⟨pg, 0, none⟩))) wr := ⟨_, rfl, ⟨pg, F, rfl, hF, hnew⟩, hI.bel⟩
      have HEND := Lib.hid hend
      clear hend hF hnew hPI hI hil
      go_wp2
      go_ret
      exact HEND.out
theorem part_two (e : Ex) (k : Nat) (a b : Ex) (he : e.rx = .node k Ws.nil ([a, b].map Ex.rx)) (ha : PartC a) (hb : PartC b) : PartC e := part_node e k Ws.nil [a, b] he fun em h => by
  simp at h
  rcases h with h | h
  · rw [h]; exact ha
  · rw [h]; exact hb
theorem part_one (e : Ex) (k : Nat) (a : Ex) (he : e.rx = .node k Ws.nil ([a].map Ex.rx)) (ha : PartC a) : PartC e := part_node e k Ws.nil [a] he fun em h => by
  simp at h
  rw [h]; exact ha
theorem part_any : ∀ e : Ex, PartC e
  | .empty => part_node .empty 1 Ws.nil [] rfl fun em h => by cases h
  | .eps => part_node .eps 2 Ws.nil [] rfl fun em h => by cases h
  | .cls t => part_node (.cls t) 3 t [] rfl fun em h => by cases h
  | .seq a b => part_two (.seq a b) 4 a b rfl (part_any a) (part_any b)
  | .alt a b => part_two (.alt a b) 5 a b rfl (part_any a) (part_any b)
  | .star a => part_one (.star a) 6 a rfl (part_any a)
open Go.RowKit
theorem rise_ext : ∀ {l m : List Nat}, l.Pairwise (· < ·) → m.Pairwise (· < ·) → (∀ x, x ∈ l ↔ x ∈ m) → l = m
  | [], [], _, _, _ => rfl
  | [], y :: m, _, _, h => by have := (h y).2 (by simp); cases this
  | x :: l, [], _, _, h => by have := (h x).1 (by simp); cases this
  | x :: l, y :: m, hl, hm, h => by
    rw [List.pairwise_cons] at hl hm
    have hxy : x = y := by
      have h1 := (h x).1 (by simp)
      have h2 := (h y).2 (by simp)
      rcases List.mem_cons.1 h1 with e | e
      · exact e
      · rcases List.mem_cons.1 h2 with e2 | e2
        · exact e2.symm
        · have := hl.1 y e2
          have := hm.1 x e
          omega
    subst hxy
    congr 1
    refine rise_ext hl.2 hm.2 fun z => ?_
    constructor
    · intro hz
      rcases List.mem_cons.1 ((h z).1 (List.mem_cons_of_mem _ hz)) with e | e
      · have := hl.1 z hz; omega
      · exact e
    · intro hz
      rcases List.mem_cons.1 ((h z).2 (List.mem_cons_of_mem _ hz)) with e | e
      · have := hm.1 z hz; omega
      · exact e
def riseL (l : List Nat) (at_ n : Nat) : List Nat := ((List.range n).filter fun j => decide (j ∈ l)).map (at_ + ·)
theorem range_lt (n : Nat) : (List.range n).Pairwise (· < ·) := List.pairwise_lt_range
theorem riseL_lt (l : List Nat) (at_ n : Nat) : (riseL l at_ n).Pairwise (· < ·) := by
  unfold riseL
  rw [List.pairwise_map]
  exact ((range_lt n).filter _).imp fun h => by omega
theorem mem_riseL {l : List Nat} {at_ n x : Nat} : x ∈ riseL l at_ n ↔ ∃ j, j < n ∧ j ∈ l ∧ x = at_ + j := by
  unfold riseL
  rw [List.mem_map]
  constructor
  · rintro ⟨j, hj, rfl⟩
    obtain ⟨h1, h2⟩ := List.mem_filter.1 hj
    exact ⟨j, List.mem_range.1 h1, by simpa using h2, rfl⟩
  · rintro ⟨j, h1, h2, rfl⟩
    exact ⟨j, List.mem_filter.2 ⟨List.mem_range.2 h1, by simpa using h2⟩, rfl⟩
theorem riseL_snoc (l : List Nat) (at_ j : Nat) (h : j ∈ l) : riseL l at_ (j + 1) = riseL l at_ j ++ [at_ + j] := by
  unfold riseL
  rw [List.range_succ, List.filter_append, List.map_append]
  simp [h]
theorem riseL_snoc' (l : List Nat) (at_ j : Nat) (h : ¬ j ∈ l) : riseL l at_ (j + 1) = riseL l at_ j := by
  unfold riseL
  rw [List.range_succ, List.filter_append, List.map_append]
  simp [h]
theorem riseL_len (l : List Nat) (at_ n : Nat) : (riseL l at_ n).length ≤ n := by
  unfold riseL
  rw [List.length_map]
  have := List.length_filter_le (fun j => decide (j ∈ l)) (List.range n)
  simpa using this
def riseI1 (l : List Nat) (w : World) (y12 : Value) (W : World) : Prop := ∃ (i : Nat) (tv : Value), i ≤ l.length ∧ y12 = .int .i64 i ∧ W.heap[w.heap.size]? = some (.cells #[tv] 70) ∧ ToldV W tv (fun x => x ∈ l.take i) ∧ (∀ t, tv.ownBlock = some t → w.heap.size < t) ∧ Below w.heap.size w W
def riseI2 (l : List Nat) (at_ nm : Nat) (w : World) (tv : Value) (y8 y22 : Value) (W : World) : Prop := ∃ j : Nat, j ≤ nm ∧ y22 = .int .i64 j ∧ OwnI W y8 (riseL l at_ j) ∧ (∀ q, y8.ownBlock = some q → w.heap.size < q ∧ tv.ownBlock ≠ some q) ∧
  W.heap[w.heap.size]? = some (.cells #[tv] 70) ∧ ToldV W tv (fun x => x ∈ l) ∧ Below w.heap.size w W
def RisePost (l : List Nat) (w : World) (e : Ending) (w' : World) : Prop := ∃ v, e = .returned v ∧ OwnI w' v l ∧ Below w.heap.size w w'
set_option maxRecDepth 100000 in
set_option maxHeartbeats 4000000 in
theorem rising_any (at_ : Nat) (v : Value) (l : List Nat) (w : World) (hat : at_ ≤ 1000) (hl : ∀ x ∈ l, x < 64) (hv : OwnI w v l) :
    Calls Tryz.prog 19 #[.int .i64 at_, v] w (RisePost (riseL l at_ 64) w) := by
  have HV := Lib.hid hv
  have HL := Lib.hid hl
  have HLM := Lib.hid hv.len_max
  obtain ⟨vp, vc, rfl⟩ := own_len hv
  have hst : riseI1 l w (.int .i64 0) (w.alloc (.cells #[.slice none 0 0] 70)) := ⟨0, _, Nat.zero_le _, rfl, blk_new _ _, .inl ⟨rfl, fun i hi => by simp at hi⟩, fun t ht => (by cases ht), bel_al _ _⟩
  have HST := Lib.hid hst
  obtain ⟨n, hn⟩ : ∃ n, n = l.length := ⟨_, rfl⟩
  have HN := Lib.hid hn
  rw [← hn]
  clear hst hl hv
  clear hn
  go_enter Tryz.func19, Tryz.ntmps19
  go_wp2_with fail
  go_loopw [12] (fun y12 wr => riseI1 l w y12 wr) (fun y12 _ => n - (intOf y12).toNat)
  case atStart => exact HST.out
  case round =>
    clear HST
    obtain ⟨i, tv, hi, rfl, hm, ht, hto, hb⟩ := hrel
    have HM := Lib.hid hm
    have HT := Lib.hid ht
    have HTO := Lib.hid hto
    have HB := Lib.hid hb
    by_cases hlt : i < l.length
    · have q1 : (i : Int) < (n : Int) := by have := HN.out; omega
      have hv' := HV.out.below hb
      obtain ⟨f, cap, cur, hvf, -⟩ := (HV.out.form).resolve_left (fun h => by rw [h.2] at hlt; exact absurd hlt (Nat.not_lt_zero _))
      injection hvf with hvf1 hvf2 hvf3
      subst hvf1
      have c1 := hv'.cell i hlt
      have hx64 := HL.out l[i] (List.getElem_mem hlt)
      obtain ⟨x, hx⟩ : ∃ x, x = l[i] := ⟨_, rfl⟩
      rw [← hx] at c1 hx64
      have KP := Lib.hid (mput_any tv _ w.heap.size 0 _ _ x wr hx64 hm rfl ht (fun e => by have := hto _ e; omega))
      have hml : w.heap.size < wr.heap.size := (Array.getElem?_eq_some_iff.1 hm).1
      have htk : l.take (i + 1) = l.take i ++ [x] := by rw [hx, List.take_succ_eq_append_getElem hlt]
      have HTK := Lib.hid htk
      have hw64 : wrap64 ((i : Int) + 1) = (i : Int) + 1 := by have := HLM.out; unfold maxLen at this; unfold wrap64; omega
      have HW := Lib.hid hw64
      have HLT := Lib.hid hlt
      clear hw64 htk hx hm ht hto hb hv' hvf2 hvf3
      go_wp2_with fail
      refine KP.out.mono ?_
      rintro e w1 ⟨rfl, tv', a1, a2, a3, a4⟩
      have hend : riseI1 l w (.int .i64 ((i : Int) + 1)) w1 := by
        refine ⟨i + 1, tv', HLT.out, by simp, a1, ?_, fun t ht => ?_, HB.out.trans (a4.to (B := w.heap.size) HB.out.size fun z hz => ?_)⟩
        · rw [HTK.out]
          have e : (fun x_1 => x_1 ∈ l.take i ++ [x]) = Also (fun y => y ∈ l.take i) [x] := by funext y; simp [Also]
          rw [e]; exact a2
        · rcases a3 with h | ⟨t', h, h'⟩
          · rw [h] at ht; exact HTO.out t ht
          · rw [h] at ht; injection ht with ht; omega
        · rcases hz with h | h
          · omega
          · exact Nat.le_of_lt (HTO.out z h)
      have HEND := Lib.hid hend
      clear a1 a2 a3 a4 hend
      go_wp2
      rw [HW.out]
      exact ⟨HEND.out, by have := HN.out; have := HLT.out; simp [intOf]; omega⟩
    · have q1 : ¬ (i : Int) < (n : Int) := by have := HN.out; omega
      have hil : l.take i = l := List.take_of_length_le (by omega)
      rw [hil] at ht
      have hml : w.heap.size < wr.heap.size := (Array.getElem?_eq_some_iff.1 hm).1
      have d0 : wr.cell? ⟨w.heap.size, 0, none⟩ = some tv := by rw [Lib.cell_of_heap hm]; rfl
      obtain ⟨nm, hnm, hfull, tp, tq, tc, htv, htq⟩ : ∃ nm : Nat, nm ≤ 64 ∧ riseL l at_ nm = riseL l at_ 64 ∧ ∃ tp tq tc, tv = .slice tp tq tc ∧ (tq : Int) * 64 = (nm : Int) := by
        rcases ht with ⟨rfl, h⟩ | ⟨t, cap, _, m, rfl, _⟩
        · refine ⟨0, by omega, ?_, _, _, _, rfl, rfl⟩
          refine rise_ext (riseL_lt _ _ _) (riseL_lt _ _ _) fun x => ?_
          rw [mem_riseL, mem_riseL]
          constructor
          · rintro ⟨j, h1, _⟩; omega
          · rintro ⟨j, _, h2, _⟩; exact absurd h2 (h j)
        · exact ⟨64, by omega, rfl, _, _, _, rfl, rfl⟩
      have hst2 : riseI2 l at_ nm w tv (.slice none 0 0) (.int .i64 0) wr := ⟨0, Nat.zero_le _, rfl, OwnI.nil _, fun q hq => (by cases hq), hm, ht, hb⟩
      have HS2 := Lib.hid hst2
      have HF := Lib.hid hfull
      clear hst2 hfull HM HT HTO HB hm ht hto hb hil hi
      subst htv
      go_wp2_with fail
      clear d0
      go_loopw [8, 22] (fun y8 y22 wr2 => riseI2 l at_ nm w (.slice tp tq tc) y8 y22 wr2) (fun _ y22 _ => nm - (intOf y22).toNat)
      case atStart => exact HS2.out
      case round =>
        clear HS2
        obtain ⟨j, hj, rfl, ho, hq, hm, ht, hb⟩ := hrel
        generalize u8 = y8 at *
        have HO := Lib.hid ho
        have HQ := Lib.hid hq
        have HM := Lib.hid hm
        have HT := Lib.hid ht
        have HB := Lib.hid hb
        by_cases hlt2 : j < nm
        · have q2 : (j : Int) < (nm : Int) := by omega
          have d0 : wr.cell? ⟨w.heap.size, 0, none⟩ = some (.slice tp tq tc) := by rw [Lib.cell_of_heap hm]; rfl
          have hmw : w.heap.size < wr.heap.size := (Array.getElem?_eq_some_iff.1 hm).1
          have KH := Lib.hid (mhas_any (.slice tp tq tc) _ j wr (by omega) ht)
          have hw64 : wrap64 ((j : Int) + 1) = (j : Int) + 1 := by unfold wrap64; omega
          have HW := Lib.hid hw64
          clear hw64
          clear ho hq hm ht hb
          go_wp2_with fail
          refine KH.out.mono ?_
          rintro e w1 ⟨b, rfl, hb, hbel⟩
          have hO1 := HO.out.below hbel
          have hM1 : w1.heap[w.heap.size]? = some (.cells #[.slice tp tq tc] 70) := (hbel.block _ hmw).trans HM.out
          have hT1 : ToldV w1 (.slice tp tq tc) (fun x => x ∈ l) := HT.out.go fun t ht => hbel.block t (HT.out.lt ht)
          have hB1 := HB.out.trans (hbel.mono HB.out.size)
          cases b with
          | false =>
            have hnj : ¬ j ∈ l := fun h => by have := hb.2 h; cases this
            have hend : riseI2 l at_ nm w (.slice tp tq tc) y8 (.int .i64 ((j : Int) + 1)) w1 := ⟨j + 1, hlt2, by simp, by rw [riseL_snoc' l at_ j hnj]; exact hO1, HQ.out, hM1, hT1, hB1⟩
            have HEND := Lib.hid hend
            clear hb hbel hO1 hM1 hT1 hB1 hnj hend d0
            go_wp2
            exact ⟨HEND.out, by simp [intOf]; omega⟩
          | true =>
            have hmem : j ∈ l := hb.1 rfl
            obtain ⟨y, hy⟩ : ∃ y, y = at_ + j := ⟨_, rfl⟩
            have hsn := riseL_snoc l at_ j hmem
            rw [← hy] at hsn
            have HSN := Lib.hid hsn
            have hOx := hO1.below (bel_al w1 (.cells #[.int .i64 (y : Nat)] 3))
            have hUx : OwnI (w1.alloc (.cells #[.int .i64 (y : Nat)] 3)) (.slice (some ⟨w1.heap.size, 0, none⟩) 1 1) [y] := OwnI.of (l := [y]) (blk_new w1 _) (Nat.le_refl _) (by decide) rfl rfl
            have hlen : (riseL l at_ j).length + [y].length ≤ 1000 := by have := riseL_len l at_ j; simp; omega
            have hyw : (at_ : Int) + (j : Int) = (y : Int) := by rw [hy]; omega
            have HO1 := Lib.hid hOx
            have HU1 := Lib.hid hUx
            have HM1 := Lib.hid hM1
            have HT1 := Lib.hid hT1
            have HB1 := Lib.hid hB1
            have HLEN := Lib.hid hlen
            have hml1 : w.heap.size < w1.heap.size := (Array.getElem?_eq_some_iff.1 hM1).1
            have HOB := Lib.hid fun (q : Nat) (hq : y8.ownBlock = some q) => hO1.lt hq
            clear hb hbel hO1 hM1 hT1 hB1 hmem hsn hOx hUx hlen hy d0
            go_wp2_with (at_builtin; refine wpList_app_ints rfl _ _ rfl _ _ (riseL l at_ j) [y] rfl rfl HO1.out HU1.out HLEN.out ?_)
            intro v2 w2 g1 g2 g3
            have hs3 := g3.size
            have keep : ∀ q, q < w1.heap.size → y8.ownBlock ≠ some q → w2.heap[q]? = w1.heap[q]? := fun q hq hn => (g3.block q (by simp; omega) fun e => hn e.symm).trans (Below.heap_alloc _ _ _ hq)
            have hend : riseI2 l at_ nm w (.slice tp tq tc) v2 (.int .i64 ((j : Int) + 1)) w2 := by
              refine ⟨j + 1, hlt2, by simp, by rw [HSN.out]; exact g1, fun q hq => ?_, (keep _ hml1 fun e => by have := (HQ.out _ e).1; omega).trans HM1.out, HT1.out.go fun t ht => keep t (HT1.out.lt ht) fun e => (HQ.out t e).2 ht, (HB1.out.trans (bel_al w1 _ |>.mono HB1.out.size)).trans ⟨g3.os, g3.tape, g3.output, g3.size, fun q hq => g3.block q (by simp; omega) fun e => by have := (HQ.out q e.symm).1; omega⟩⟩
              rcases g2 with e | e
              · rw [e] at hq; exact HQ.out q hq
              · rw [e] at hq
                injection hq with hq
                exact ⟨by omega, fun h => by have := HT1.out.lt h; omega⟩
            have HEND := Lib.hid hend
            clear g1 g2 g3 keep hend hyw
            go_wp2
            exact ⟨HEND.out, by simp [intOf]; omega⟩
        · have q2 : ¬ (j : Int) < (nm : Int) := by omega
          have hjn : j = nm := by omega
          rw [hjn, HF.out] at ho
          have hend : RisePost (riseL l at_ 64) w (.returned y8) wr := ⟨_, rfl, ho, hb⟩
          have HEND := Lib.hid hend
          clear hend ho hq hm ht hb HO HQ HM HT HB HF
          go_wp2
          go_ret
          exact HEND.out
end Go.Proofs.YtiegejbbjlhpdaaGreatDoor
/- Lemmas of mine. -/
namespace Go.Proofs.YtiegejbbjlhpdaaGreatDoor
open Classical in
noncomputable def endsN (e : Ex) (s : List UInt8) (at_ : Nat) : List Nat := (List.range (s.length + 1)).filter fun j => decide (EndsP e s (fun i => i = at_) j)
theorem mem_endsN {e : Ex} {s : List UInt8} {at_ j : Nat} : j ∈ endsN e s at_ ↔ EndsP e s (fun i => i = at_) j := by
  unfold endsN
  rw [List.mem_filter, List.mem_range]
  simp only [decide_eq_true_eq]
  exact ⟨fun h => h.2, fun h => ⟨by have := h.1; omega, h⟩⟩
theorem endsN_lt (e : Ex) (s : List UInt8) (at_ : Nat) : (endsN e s at_).Pairwise (· < ·) := (range_lt _).filter _
theorem seg_shift (s : List UInt8) (a j : Nat) : segT s a (a + j) = segT (s.drop a) 0 j := by
  unfold segT
  rw [show a + j - a = j - 0 from by omega, List.drop_zero]
theorem ends_shift {e : Ex} {s : List UInt8} {a j : Nat} (ha : a ≤ s.length) : EndsP e s (fun i => i = a) (a + j) ↔ EndsP e (s.drop a) (fun i => i = 0) j := by
  constructor
  · rintro ⟨h1, i, h2, rfl, h3⟩
    exact ⟨by rw [List.length_drop]; omega, 0, Nat.zero_le _, rfl, by rw [← seg_shift]; exact h3⟩
  · rintro ⟨h1, i, h2, rfl, h3⟩
    rw [List.length_drop] at h1
    exact ⟨by omega, a, by omega, rfl, by rw [seg_shift]; exact h3⟩
theorem ends_at_ge {e : Ex} {s : List UInt8} {a j : Nat} (h : EndsP e s (fun i => i = a) j) : a ≤ j := by
  obtain ⟨_, i, h2, rfl, _⟩ := h
  exact h2
theorem also_zero : Also NoP [0] = fun i => i = 0 := by funext i; simp [Also, NoP]
theorem rise_ends {e : Ex} {s : List UInt8} {a : Nat} {l : List Nat} (ha : a ≤ s.length) (hs : s.length < 64) (h : Tld e (s.drop a) NoP [0] l) : riseL l a 64 = endsN e s a := by
  refine rise_ext (riseL_lt _ _ _) (endsN_lt _ _ _) fun x => ?_
  rw [mem_riseL, mem_endsN]
  have hl : ∀ j, j ∈ l ↔ EndsP e (s.drop a) (fun i => i = 0) j := fun j => by
    rw [h.2 j, also_zero, endsP_no]
    exact ⟨fun h => h.1, fun h => ⟨h, fun h2 => h2⟩⟩
  constructor
  · rintro ⟨j, _, h2, rfl⟩
    exact (ends_shift ha).2 ((hl j).1 h2)
  · intro hx
    have h1 := ends_at_ge hx
    obtain ⟨j, rfl⟩ : ∃ j, x = a + j := ⟨x - a, by omega⟩
    exact ⟨j, by have := hx.1; omega, (hl j).2 ((ends_shift ha).1 hx), rfl⟩
theorem ask_zero (s : List UInt8) : Ask s NoP [0] := ⟨by simp, fun i hi => by simp at hi; subst hi; exact ⟨Nat.zero_le _, fun h => h⟩⟩
noncomputable def endsI (r : Rx) (s : ByteArray) (at_ : Int) : List Nat := match exX r with
  | none => []
  | some e => if 0 ≤ at_ ∧ at_ ≤ (s.size : Int) then endsN e s.data.toList at_.toNat else []
theorem endsI_no {r : Rx} {s : ByteArray} {at_ : Int} (h : mayR r = false) : endsI r s at_ = [] := by unfold endsI; rw [exX_no h]
theorem endsI_out {r : Rx} {s : ByteArray} {at_ : Int} (h : ¬ (0 ≤ at_ ∧ at_ ≤ (s.size : Int))) : endsI r s at_ = [] := by
  unfold endsI
  split
  · rfl
  · rw [if_neg h]
theorem endsI_in {e : Ex} {s : ByteArray} {n : Nat} (we : e.Wf) (hs : e.size ≤ 2000) (h : n ≤ s.size) : endsI e.rx s (n : Int) = endsN e s.data.toList n := by
  unfold endsI
  rw [exX_of we hs]
  simp only
  rw [if_pos ⟨by omega, by omega⟩]
  rfl
theorem endsN_len (e : Ex) (s : List UInt8) (n : Nat) : (endsN e s n).length ≤ s.length + 1 := by
  unfold endsN
  have := List.length_filter_le (fun j => @decide (EndsP e s (fun i => i = n) j) (Classical.propDecidable _)) (List.range (s.length + 1))
  simpa using this
theorem endsI_len (r : Rx) (s : ByteArray) (at_ : Int) : (endsI r s at_).length ≤ s.size + 1 := by
  unfold endsI
  split
  · simp
  · split
    · have := endsN_len ‹Ex› s.data.toList at_.toNat
      rw [Array.length_toList] at this
      exact this
    · simp
open Go.RowKit
theorem may_one10 (r : Rx) (g : Nat) (W : World) {ok : Nat → Prop} (h : RowAt ok W (some ⟨g, 0, none⟩) [r]) : Calls Tryz.prog 18 #[.slice (some ⟨g, 0, none⟩) 1 1] W fun x w' => x = .returned (.bool (mayR r)) ∧ Below W.heap.size W w' := by
  have := mayX [r] (some ⟨g, 0, none⟩) 1 W (by simp) h
  simp only [List.all_cons, List.all_nil, Bool.and_true] at this
  exact this
theorem ext_drop10 (s : ByteArray) (n : Nat) : (s.extract n s.size).data.toList = s.data.toList.drop n := by
  rw [ByteArray.data_extract, Array.toList_extract, List.extract_eq_take_drop]
  apply List.take_of_length_le
  rw [List.length_drop, Array.length_toList]
  exact Nat.le_refl _
def SP.zrow (B : Nat) : SP := ⟨fun x W => ∃ f, x = .slice (some ⟨f, 0, none⟩) 1 1 ∧ B ≤ f ∧ W.heap[f]? = some (.cells #[.int .i64 0] 3), fun _ _ _ ⟨f, h1, h2, h3⟩ hb => ⟨f, h1, h2, (hb.block f (Array.getElem?_eq_some_iff.1 h3).1).trans h3⟩⟩
theorem ask_first (s : ByteArray) (hs : s.size ≤ 60) (e : Ex) (we : e.Wf) (B : World) (x : World) (g2 : Nat) (F2 : Nat → Prop) (f2 : Nat) (hx : Below B.heap.size B x) (hp : Part0 e x g2 F2 ∧ ∀ z, F2 z → B.heap.size ≤ z) (hc : x.heap[f2]? = some (.cells #[.int .i64 0] 3)) (hf : B.heap.size ≤ f2) :
    Calls Tryz.prog 21 #[.pointer (some ⟨g2, 0, none⟩), .string s, .slice (some ⟨f2, 0, none⟩) 1 1] x fun e' w2 => ∃ y, e' = .returned y ∧ ∃ l, OwnI w2 y l ∧ Tld e s.data.toList NoP [0] l ∧ Below B.heap.size B w2 := by
  have hnf : ¬ F2 f2 := fun h => hp.1.2 f2 h _ hc
  refine (mends_any s hs e we NoP [0] x g2 F2 (.slice (some ⟨f2, 0, none⟩) 1 1) (hp.1.1 _) (OwnI.of (l := [0]) hc (Nat.le_refl _) (by decide) rfl rfl) (fun b hb h => by injection hb with hb; exact hnf (by rw [show f2 = b from hb]; exact h)) (ask_zero _)).mono ?_
  rintro e' w2 ⟨v', l', F', h1, h2, h3, h4, h5, h6, h7⟩
  refine ⟨v', h1, l', h2, h4, hx.trans (h7.to hx.size fun z hz => ?_)⟩
  rcases hz with h | h
  · exact hp.2 z h
  · injection h with h; rw [← show f2 = z from h]; exact hf
set_option maxRecDepth 100000 in
set_option maxHeartbeats 4000000 in
theorem mEnds_any {ok : Nat → Prop} (r : Rx) (s : ByteArray) (hs : s.size ≤ 60) (at_ : Int) (v : Value) (w : World) (h : ReAt ok w v r) :
    Calls Tryz.prog 9 #[v, .string s, .int .i64 at_] w (RisePost (endsI r s at_) w) := by
  have hr0 := h
  obtain ⟨x0, x1, x2, x3, x4, xl, xn, xc, rfl⟩ := cells_re h
  obtain ⟨B, hB⟩ : ∃ B, B = w.alloc (.cells #[.int .u8 x0, .int .u64 x1, .int .u64 x2, .int .u64 x3, .int .u64 x4, .slice xl xn xc] 27) := ⟨_, rfl⟩
  have hbB : Below w.heap.size w B := by rw [hB]; exact bel_al _ _
  have hcB : B.heap[w.heap.size]? = some (.cells #[.int .u8 x0, .int .u64 x1, .int .u64 x2, .int .u64 x3, .int .u64 x4, .slice xl xn xc] 27) := by rw [hB]; exact blk_new _ _
  obtain ⟨C0, hC0⟩ : ∃ C0, C0 = B.alloc (.cells #[.int .u8 x0, .int .u64 x1, .int .u64 x2, .int .u64 x3, .int .u64 x4, .slice xl xn xc] 27) := ⟨_, rfl⟩
  have hbC : Below B.heap.size B C0 := by rw [hC0]; exact bel_al _ _
  have hrow : RowAt (fun _ => True) C0 (some ⟨B.heap.size, 0, none⟩) [r] := by rw [hC0]; exact row_new (h.below hbB)
  have KM := Lib.hid (may_one10 r B.heap.size C0 hrow)
  have HBB := Lib.hid hB
  have HCC := Lib.hid hC0
  have hwB : Below w.heap.size w C0 := hbB.trans (hbC.mono hbB.size)
  have BWC := Lib.hid hwB
  have CC0 := Lib.hid ((hbC.block _ (Array.getElem?_eq_some_iff.1 hcB).1).trans hcB)
  obtain ⟨c0, c1, c2, c3, c4, c5, -⟩ := cellsR hcB
  have hlw : w.heap.size < B.heap.size := (Array.getElem?_eq_some_iff.1 hcB).1
  have HR := Lib.hid (h.below hwB)
  obtain ⟨gB, hgB⟩ : ∃ gB, gB = w.heap.size + 1 := ⟨_, rfl⟩
  rw [show B.heap.size = gB from by rw [hgB, hB]; simp] at KM
  have HGB := Lib.hid hgB
  clear h hr0 hB hC0 hrow hbB hbC hcB hwB hgB
  cases hm : mayR r with
  | false =>
    have hres : endsI r s at_ = [] := endsI_no hm
    rw [hres]
    rw [hm] at KM
    clear hm hres HR
    go_enter Tryz.func9, Tryz.ntmps9
    go_wp2_with fail
    rw [← HBB.out]
    go_wp2_with fail
    rw [← HCC.out, ← HGB.out]
    refine KM.out.mono ?_
    rintro e w1 ⟨rfl, hb⟩
    have hend : RisePost [] w (.returned (.slice none 0 0)) w1 := ⟨_, rfl, OwnI.nil _, BWC.out.trans (hb.mono BWC.out.size)⟩
    have HEND := Lib.hid hend
    clear hb hend
    go_wp2
    go_ret
    exact HEND.out
  | true =>
    obtain ⟨e, he, we, hes⟩ := may_ex HR.out hm
    rw [hm] at KM
    by_cases hin : 0 ≤ at_ ∧ at_ ≤ (s.size : Int)
    · obtain ⟨n, rfl⟩ : ∃ n : Nat, at_ = (n : Int) := ⟨at_.toNat, by omega⟩
      have hnl : n ≤ s.size := by omega
      have hns : ¬ (s.size : Int) < (n : Int) := by omega
      have hres : endsI r s (n : Int) = endsN e s.data.toList n := by rw [← he]; exact endsI_in we hes hnl
      have hsd : s.data.toList.length = s.size := by rw [Array.length_toList]; rfl
      have hrise : ∀ l, Tld e (s.extract n s.size).data.toList NoP [0] l → riseL l n 64 = endsN e s.data.toList n := fun l hl => by
        rw [ext_drop10] at hl
        exact rise_ends (by omega) (by omega) hl
      have hsx : (s.extract n s.size).size ≤ 60 := by rw [ByteArray.size_extract]; omega
      rw [hres]
      have HRS := Lib.hid hrise
      have HIN := Lib.hid (show (0 : Int) ≤ (n : Int) ∧ (n : Int) ≤ (s.size : Int) from hin)
      have KE0 := Lib.hid fun (B0 : World) (x : World) (g2 : Nat) (F2 : Nat → Prop) (f2 : Nat) hx hp hc hf => ask_first (s.extract n s.size) hsx e we B0 x g2 F2 f2 hx hp hc hf
      have KP0 := Lib.hid fun (x : World) (h : ReAt ok x (.agg #[.int .u8 x0, .int .u64 x1, .int .u64 x2, .int .u64 x3, .int .u64 x4, .slice xl xn xc]) r) => part_any e ok (.agg #[.int .u8 x0, .int .u64 x1, .int .u64 x2, .int .u64 x3, .int .u64 x4, .slice xl xn xc]) x (by rw [he]; exact h)
      clear hin hm hres he we hes hrise hsx hsd
      go_enter Tryz.func9, Tryz.ntmps9
      go_wp2_with fail
      rw [← HBB.out]
      go_wp2_with fail
      rw [← HCC.out, ← HGB.out]
      refine KM.out.mono ?_
      rintro e1 w1 ⟨rfl, hb⟩
      have CX := Lib.hid fun (x : World) (hx : Below w1.heap.size w1 x) => cellsR ((hx.block _ (Nat.lt_of_lt_of_le (Array.getElem?_eq_some_iff.1 CC0.out).1 hb.size)).trans ((hb.block _ (Array.getElem?_eq_some_iff.1 CC0.out).1).trans CC0.out))
      have KP := Lib.hid fun (x : World) (hx : Below w1.heap.size w1 x) => (KP0.out x ((HR.out.below hb).below hx)).mono fun e' w2 h => show ∃ y, e' = .returned y ∧ (∃ g2 F2, y = .pointer (some ⟨g2, 0, none⟩) ∧ Part0 e w2 g2 F2 ∧ ∀ z, F2 z → w1.heap.size ≤ z) ∧ Below x.heap.size x w2 from by
        obtain ⟨y, e1, ⟨g2, F2, h1, h2, h3⟩, h4⟩ := h
        exact ⟨y, e1, ⟨g2, F2, h1, h2, fun z hz => Nat.le_trans hx.size (h3 z hz)⟩, h4⟩
      have KE := Lib.hid fun (x : World) (g2 : Nat) (F2 : Nat → Prop) (f2 : Nat) (hx : Below w1.heap.size w1 x) hp hc hf => KE0.out w1 x g2 F2 f2 hx hp hc hf
      have BW1 := Lib.hid (BWC.out.trans (hb.mono BWC.out.size))
      have KR0 : ∀ (y : Value) (x : World), (∃ l, OwnI x y l ∧ Tld e (s.extract n s.size).data.toList NoP [0] l ∧ Below w1.heap.size w1 x) → Calls Tryz.prog 19 #[.int .i64 (n : Nat), y] x fun e' w2 => ∃ z, e' = .returned z ∧ OwnI w2 z (endsN e s.data.toList n) ∧ Below w1.heap.size w1 w2 := by
        rintro y x ⟨l, h1, h2, h3⟩
        have h4 := rising_any n y l x (by omega) (fun j hj => by have := ((h2.2 j).1 hj).1.1; rw [ext_drop10, List.length_drop, Array.length_toList] at this; have : j ≤ s.size := Nat.le_trans this (Nat.sub_le _ _); omega) h1
        rw [HRS.out l h2] at h4
        exact h4.mono fun e' w2 ⟨z, e1, h5, h6⟩ => ⟨z, e1, h5, h3.trans (h6.mono h3.size)⟩
      have KR := Lib.hid KR0
      have RS := Lib.hid fun (y : Value) (x : World) (h : ∃ l, OwnI x y l ∧ Tld e (s.extract n s.size).data.toList NoP [0] l ∧ Below w1.heap.size w1 x) => show ∃ p q c, y = .slice p q c from by
        obtain ⟨l, h1, _⟩ := h
        exact own_shape h1
      clear KR0 hb KM CC0 HR c0 c1 c2 c3 c4 c5 HBB HCC HGB BWC KE0 KP0 HRS
      go_wp2_with fail
      refine wp_region_orderX [7, 8, 9] (fun i => if i = 7 then 2 else if i = 8 then 3 else if i = 9 then 4 else if i = 1 then 0 else if i = 2 then 0 else if i = 6 then 0 else 1)
        (fun j => ([SP.eq (.int .i64 (n : Nat)), SP.eq (.agg #[.int .u8 x0, .int .u64 x1, .int .u64 x2, .int .u64 x3, .int .u64 x4, .slice xl xn xc]), SP.part e w1.heap.size, SP.eq (.string s), SP.eq (.int .i64 (n : Nat)), SP.eq (.string (s.extract n s.size)), SP.zrow w1.heap.size, SP.free, SP.free, SP.free] : List SP).getD j SP.free) (pv [some (.int .i64 (n : Nat)), none, none, some (.string s), some (.int .i64 (n : Nat)), some (.string (s.extract n s.size)), none, none, none, none])
        (fun X => Below w1.heap.size w1 X) (fun _ => True)
        (fun m v X => match m with
          | 0 => ∃ l, OwnI X v l ∧ Tld e (s.extract n s.size).data.toList NoP [0] l ∧ Below w1.heap.size w1 X
          | _ => OwnI X v (endsN e s.data.toList n) ∧ Below w1.heap.size w1 X)
        (Below.refl _ _).drew (fun _ _ => trivial) (fun _ _ _ _ => trivial) (fun X X2 h hb => h.trans (hb.mono h.size))
        (by
          intro j x X h
          match j, h with
          | 0, h => exact h
          | 1, _ => trivial
          | 2, _ => trivial
          | 3, h => exact h
          | 4, h => exact h
          | 5, h => exact h
          | 6, _ => trivial
          | 7, _ => trivial
          | 8, _ => trivial
          | 9, _ => trivial
          | n + 10, _ => trivial) (by kernel_rfl) (by kernel_rfl) ⟨?_, ?_, ?_, ?_, ?_, ?_, ?_, ?_, ?_, ?_, trivial⟩ ?_
      · intro a x K out get old hC hK
        rw [if_pos (wanted_none rfl)]
        have o2 : a.tmps[2]? = some (.int .i64 (n : Nat)) := out 2 (by kernel_rfl)
        clear out get old
        go_simp
        exact hK _ rfl (fun _ => rfl)
      · intro a x K out get hJ hK
        rw [if_pos (wanted_none rfl)]
        have o3 : a.tmps[3]? = some (.pointer (some ⟨w.heap.size, 0, none⟩)) := out 3 (by kernel_rfl)
        obtain ⟨c0, c1, c2, c3, c4, c5, -⟩ := CX.out x hJ
        clear out get
        go_simp
        exact hK _ _ rfl (Below.refl _ _)
      · intro a x K out get hJ hK
        rw [if_pos (wanted_none rfl)]
        obtain ⟨y22, hy22, rfl⟩ := get 1 _ _ rfl rfl (by kernel_rfl)
        clear out get
        go_simp
        refine (KP.out x hJ).mono ?_
        rintro e w2 ⟨y, e2, h2, hb2⟩
        subst e2
        exact hK _ _ h2 hb2
      · intro a x K out get old hC hK
        rw [if_pos (wanted_none rfl)]
        have o1 : a.tmps[1]? = some (.string s) := out 1 (by kernel_rfl)
        clear out get old
        go_simp
        exact hK _ rfl (fun _ => rfl)
      · intro a x K out get old hC hK
        rw [if_pos (wanted_none rfl)]
        have o2 : a.tmps[2]? = some (.int .i64 (n : Nat)) := out 2 (by kernel_rfl)
        clear out get old
        go_simp
        exact hK _ rfl (fun _ => rfl)
      · intro a x K out get old hC hK
        rw [if_pos (wanted_none rfl)]
        obtain ⟨y24, hy24, rfl⟩ := get 3 _ _ rfl rfl (by kernel_rfl)
        obtain ⟨y25, hy25, rfl⟩ := get 4 _ _ rfl rfl (by kernel_rfl)
        clear out get old
        have hi1 := HIN.out
        go_simp
        exact hK _ rfl (fun _ => rfl)
      · intro a x K out get hJ hK
        rw [if_pos (wanted_none rfl)]
        clear out get
        have hs := hJ.size
        go_simp
        exact hK _ _ ⟨_, rfl, hs, blk_new _ _⟩ (bel_al _ _)
      · intro a x K out get hJ hK
        rw [if_pos (wanted_none rfl)]
        obtain ⟨y26, hy26, rfl, -⟩ := get 5 _ _ rfl rfl (by kernel_rfl)
        obtain ⟨y23, hy23, -, hp23⟩ := get 2 _ _ rfl rfl (by kernel_rfl)
        obtain ⟨y27, hy27, -, hp27⟩ := get 6 _ _ rfl rfl (by kernel_rfl)
        obtain ⟨g2, F2, rfl, h2⟩ := hp23 rfl
        obtain ⟨f2, rfl, hf2, hc2⟩ := hp27 rfl
        have hK1 := KE.out x g2 F2 f2 hJ h2 hc2 hf2
        clear out get h2 hc2
        go_simp
        refine hK1.mono ?_
        rintro e w2 ⟨y, e2, h3⟩
        subst e2
        exact hK _ _ trivial h3
      · intro a x K out get hJ hK
        rw [if_pos (wanted_none rfl)]
        obtain ⟨y21, hy21, rfl, -⟩ := get 0 _ _ rfl rfl (by kernel_rfl)
        obtain ⟨y28, hy28, hG⟩ := hJ
        have hK1 := KR.out y28 x hG
        obtain ⟨yp, yn, yc, rfl⟩ := RS.out y28 x hG
        clear out get
        go_simp
        refine hK1.mono ?_
        rintro e w2 ⟨y, e2, h3⟩
        subst e2
        exact hK _ _ trivial h3
      · intro a x K out get hJ hK
        rw [if_pos (wanted_none rfl)]
        obtain ⟨y29, hy29, hG⟩ := hJ
        clear out get
        go_simp
        exact hK _ _ trivial hG
      refine ao_finX (isD := fun s => (decide (21 ≤ s) && decide (s ≤ 29)) || decide (s = 6)) 2 (some 6) rfl (by kernel_rfl) (by kernel_rfl) (by kernel_rfl) ?_
      intro f9 W2 hv hG hn
      have h6 : OwnI W2 (f9 6) (endsN e s.data.toList n) ∧ Below w1.heap.size w1 W2 := hG 6 rfl
      clear hv hG hn
      have HE : Hid (RisePost (endsN e s.data.toList n) w (.returned (f9 6)) W2) := Lib.hid ⟨_, rfl, h6.1, BW1.out.trans (h6.2.mono BW1.out.size)⟩
      clear h6
      simp only [frm]
      simp
      generalize f9 6 = u6 at *
      go_wp2
      go_ret
      exact HE.out
    · have hres : endsI r s at_ = [] := endsI_out hin
      rw [hres]
      clear hm hres HR he we hes
      by_cases h0 : at_ < 0
      · go_enter Tryz.func9, Tryz.ntmps9
        go_wp2_with fail
        rw [← HBB.out]
        go_wp2_with fail
        rw [← HCC.out, ← HGB.out]
        refine KM.out.mono ?_
        rintro e w1 ⟨rfl, hb⟩
        have hend : RisePost [] w (.returned (.slice none 0 0)) w1 := ⟨_, rfl, OwnI.nil _, BWC.out.trans (hb.mono BWC.out.size)⟩
        have HEND := Lib.hid hend
        clear hb hend hin
        go_wp2
        go_ret
        exact HEND.out
      · have h1 : (s.size : Int) < at_ := by omega
        go_enter Tryz.func9, Tryz.ntmps9
        go_wp2_with fail
        rw [← HBB.out]
        go_wp2_with fail
        rw [← HCC.out, ← HGB.out]
        refine KM.out.mono ?_
        rintro e w1 ⟨rfl, hb⟩
        have hend : RisePost [] w (.returned (.slice none 0 0)) w1 := ⟨_, rfl, OwnI.nil _, BWC.out.trans (hb.mono BWC.out.size)⟩
        have HEND := Lib.hid hend
        clear hb hend hin
        go_wp2
        go_ret
        exact HEND.out
end Go.Proofs.YtiegejbbjlhpdaaGreatDoor
