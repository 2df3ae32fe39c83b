/- The order of expressions; no program. -/
import Derived.Test.YthkkeamjigmfhaaRexB
namespace Go.Proofs.Ythkkeamjigmfhaa
theorem cmpN_le {x y : Nat} : cmpN x y ≤ 0 ↔ x ≤ y := by
  unfold cmpN
  split
  · simp; omega
  · split
    · simp; omega
    · simp; omega
theorem cmpN_three (x y : Nat) : cmpN x y = -1 ∨ cmpN x y = 0 ∨ cmpN x y = 1 := by unfold cmpN; split <;> (try split) <;> simp
/-- One thing first, then another. -/
def lexI (a b : Int) : Int := if a ≠ 0 then a else b
theorem lexI_le {a b : Int} : lexI a b ≤ 0 ↔ a < 0 ∨ (a = 0 ∧ b ≤ 0) := by unfold lexI; split <;> omega
theorem ordW_lex (s t : Ws) : ordW s t = lexI (cmpN s.a t.a) (lexI (cmpN s.b t.b) (lexI (cmpN s.c t.c) (cmpN s.d t.d))) := by
  have z : ∀ x y : Nat, x ≠ y ↔ cmpN x y ≠ 0 := fun x y => by
    unfold cmpN; split
    · simp; omega
    · split
      · simp; omega
      · simp; omega
  unfold ordW lexI
  simp only [z]
theorem ordW_le_trans {s t u : Ws} (h1 : ordW s t ≤ 0) (h2 : ordW t u ≤ 0) : ordW s u ≤ 0 := by
  obtain ⟨a, b, c, d⟩ := s
  obtain ⟨a', b', c', d'⟩ := t
  obtain ⟨a'', b'', c'', d''⟩ := u
  rw [ordW_lex] at *
  simp only [lexI_le] at *
  have lt : ∀ x y : Nat, cmpN x y < 0 ↔ x < y := fun x y => by
    unfold cmpN; split
    · simp; omega
    · split
      · simp; omega
      · simp; omega
  have eq : ∀ x y : Nat, cmpN x y = 0 ↔ x = y := fun x y => cmpN_zero
  simp only [lt, eq, cmpN_le] at *
  omega
theorem ordW_three (s t : Ws) : ordW s t = -1 ∨ ordW s t = 0 ∨ ordW s t = 1 := by
  have h1 := cmpN_three s.a t.a
  have h2 := cmpN_three s.b t.b
  have h3 := cmpN_three s.c t.c
  have h4 := cmpN_three s.d t.d
  unfold ordW
  split
  · exact h1
  · split
    · exact h2
    · split
      · exact h3
      · exact h4
mutual
def ordR : Rx → Rx → Int
  | .node k s ks, .node k' s' ks' => lexI (cmpN k k') (lexI (ordW s s') (ordRs ks ks'))
def ordRs : List Rx → List Rx → Int
  | [], [] => 0
  | [], _ :: _ => -1
  | _ :: _, [] => 1
  | a :: l, b :: m => lexI (ordR a b) (ordRs l m)
end
theorem lexI_zero {a b : Int} : lexI a b = 0 ↔ a = 0 ∧ b = 0 := by unfold lexI; split <;> omega
theorem lexI_neg {a b : Int} : lexI (-a) (-b) = - lexI a b := by unfold lexI; split <;> split <;> omega
theorem lexI_three {a b : Int} (h : a = -1 ∨ a = 0 ∨ a = 1) (h' : b = -1 ∨ b = 0 ∨ b = 1) : lexI a b = -1 ∨ lexI a b = 0 ∨ lexI a b = 1 := by unfold lexI; split <;> omega
mutual
theorem ordR_zero : ∀ (a b : Rx), ordR a b = 0 ↔ a = b
  | .node k s ks, .node k' s' ks' => by
    unfold ordR
    rw [lexI_zero, lexI_zero, cmpN_zero, ordW_zero, ordRs_zero ks ks', Rx.node.injEq]
theorem ordRs_zero : ∀ (l m : List Rx), ordRs l m = 0 ↔ l = m
  | [], [] => by simp [ordRs]
  | [], _ :: _ => by simp [ordRs]
  | _ :: _, [] => by simp [ordRs]
  | a :: l, b :: m => by
    unfold ordRs
    rw [lexI_zero, ordR_zero a b, ordRs_zero l m, List.cons.injEq]
end
mutual
theorem ordR_neg : ∀ (a b : Rx), ordR b a = - ordR a b
  | .node k s ks, .node k' s' ks' => by
    unfold ordR
    rw [cmpN_neg k k', ordW_neg s s', ordRs_neg ks ks', lexI_neg, lexI_neg]
theorem ordRs_neg : ∀ (l m : List Rx), ordRs m l = - ordRs l m
  | [], [] => by simp [ordRs]
  | [], _ :: _ => by simp [ordRs]
  | _ :: _, [] => by simp [ordRs]
  | a :: l, b :: m => by
    unfold ordRs
    rw [ordR_neg a b, ordRs_neg l m, lexI_neg]
end
mutual
theorem ordR_three : ∀ (a b : Rx), ordR a b = -1 ∨ ordR a b = 0 ∨ ordR a b = 1
  | .node k s ks, .node k' s' ks' => by
    unfold ordR
    exact lexI_three (cmpN_three k k') (lexI_three (ordW_three s s') (ordRs_three ks ks'))
theorem ordRs_three : ∀ (l m : List Rx), ordRs l m = -1 ∨ ordRs l m = 0 ∨ ordRs l m = 1
  | [], [] => by simp [ordRs]
  | [], _ :: _ => by simp [ordRs]
  | _ :: _, [] => by simp [ordRs]
  | a :: l, b :: m => by
    unfold ordRs
    exact lexI_three (ordR_three a b) (ordRs_three l m)
end
/-- Three ways of a pair in a chain, put together. -/
theorem lex_chain {a a' a'' b b' b'' : Int} (h1 : lexI a b ≤ 0) (h2 : lexI a' b' ≤ 0) (hle : a ≤ 0 → a' ≤ 0 → a'' ≤ 0) (hz : a'' = 0 → a ≤ 0 → a' ≤ 0 → a = 0 ∧ a' = 0) (hb : a = 0 → a' = 0 → b ≤ 0 → b' ≤ 0 → b'' ≤ 0) : lexI a'' b'' ≤ 0 := by
  rw [lexI_le] at *
  have ha : a ≤ 0 := by omega
  have ha' : a' ≤ 0 := by omega
  have := hle ha ha'
  by_cases e : a'' = 0
  · obtain ⟨e1, e2⟩ := hz e ha ha'
    exact .inr ⟨e, hb e1 e2 (by omega) (by omega)⟩
  · exact .inl (by omega)
mutual
theorem ordR_trans : ∀ (a b c : Rx), ordR a b ≤ 0 → ordR b c ≤ 0 → ordR a c ≤ 0
  | .node k s ks, .node k' s' ks', .node k'' s'' ks'', h1, h2 => by
    unfold ordR at *
    refine lex_chain h1 h2 (fun p q => cmpN_le.2 (Nat.le_trans (cmpN_le.1 p) (cmpN_le.1 q))) (fun z p q => ?_) fun _ _ p q => ?_
    · rw [cmpN_zero] at *; rw [cmpN_le] at p q; rw [cmpN_zero]; omega
    · refine lex_chain p q ordW_le_trans (fun z p q => ?_) fun _ _ p q => ordRs_trans ks ks' ks'' p q
      rw [ordW_zero] at z
      subst z
      have hq : ordW s' s = - ordW s s' := ordW_neg s s'
      omega
theorem ordRs_trans : ∀ (l m n : List Rx), ordRs l m ≤ 0 → ordRs m n ≤ 0 → ordRs l n ≤ 0
  | [], _, [], _, _ => by simp [ordRs]
  | [], _, _ :: _, _, _ => by simp [ordRs]
  | _ :: _, [], _, h1, _ => by simp [ordRs] at h1
  | _ :: _, _ :: _, [], _, h2 => by simp [ordRs] at h2
  | a :: l, b :: m, c :: n, h1, h2 => by
    unfold ordRs at *
    refine lex_chain h1 h2 (ordR_trans a b c) (fun z p q => ?_) fun _ _ p q => ordRs_trans l m n p q
    rw [ordR_zero] at z
    subst z
    have hq : ordR b a = - ordR a b := ordR_neg a b
    omega
end
theorem ordR_self (a : Rx) : ordR a a = 0 := (ordR_zero a a).2 rfl
theorem ordR_antisymm {a b : Rx} (h1 : ordR a b ≤ 0) (h2 : ordR b a ≤ 0) : a = b := by
  have := ordR_neg a b
  exact (ordR_zero a b).1 (by omega)
theorem ordR_total (a b : Rx) : ordR a b ≤ 0 ∨ ordR b a ≤ 0 := by
  have := ordR_neg a b; omega
/-- In order: each one isn't behind any later one. -/
def InOrder (l : List Rx) : Prop := l.Pairwise fun a b => ordR a b ≤ 0
/-- Two rows in order, of the same expressions, are the same. -/
theorem inOrder_unique {l m : List Rx} (hp : l.Perm m) (hl : InOrder l) (hm : InOrder m) : l = m :=
  hp.eq_of_pairwise (fun _ _ _ _ h1 h2 => ordR_antisymm h1 h2) hl hm
/-- One more, put ahead of the first that comes behind it. -/
def insR (r : Rx) : List Rx → List Rx
  | [] => [r]
  | o :: l => if ordR r o < 0 then r :: o :: l else o :: insR r l
theorem insR_perm (r : Rx) : ∀ l : List Rx, (insR r l).Perm (r :: l)
  | [] => List.Perm.refl _
  | o :: l => by
    unfold insR
    split
    · exact List.Perm.refl _
    · exact ((insR_perm r l).cons o).trans (List.Perm.swap r o l)
theorem insR_order (r : Rx) : ∀ l : List Rx, InOrder l → InOrder (insR r l)
  | [], _ => by simp [insR, InOrder]
  | o :: l, h => by
    unfold InOrder at *
    have h' := List.pairwise_cons.1 h
    unfold insR
    split
    · rename_i hlt
      refine List.pairwise_cons.2 ⟨fun b hb => ?_, h⟩
      rcases List.mem_cons.1 hb with rfl | hb
      · omega
      · exact ordR_trans r o b (by omega) (h'.1 b hb)
    · rename_i hge
      have hro := ordR_neg r o
      refine List.pairwise_cons.2 ⟨fun b hb => ?_, insR_order r l h'.2⟩
      rcases List.mem_cons.1 ((insR_perm r l).mem_iff.1 hb) with rfl | hb
      · omega
      · exact h'.1 b hb
/-- All, put in one by one. -/
def sortR (l : List Rx) : List Rx := l.foldl (fun m r => insR r m) []
theorem sortR_snoc (l : List Rx) (r : Rx) : sortR (l ++ [r]) = insR r (sortR l) := by simp [sortR]
theorem foldIns_perm : ∀ (l m : List Rx), (l.foldl (fun m r => insR r m) m).Perm (l ++ m)
  | [], m => List.Perm.refl _
  | r :: l, m => by
    refine (foldIns_perm l (insR r m)).trans ?_
    exact ((List.Perm.append_left l (insR_perm r m)).trans List.perm_middle)
theorem foldIns_order : ∀ (l m : List Rx), InOrder m → InOrder (l.foldl (fun m r => insR r m) m)
  | [], _, h => h
  | r :: l, m, h => foldIns_order l (insR r m) (insR_order r m h)
theorem sortR_perm (l : List Rx) : (sortR l).Perm l := by simpa [sortR] using foldIns_perm l []
theorem sortR_order (l : List Rx) : InOrder (sortR l) := foldIns_order l [] (by simp [InOrder])
theorem sortR_unique {l m : List Rx} (hp : m.Perm l) (hm : InOrder m) : m = sortR l := inOrder_unique (hp.trans (sortR_perm l).symm) hm (sortR_order l)
theorem sortR_fix {l : List Rx} (h : InOrder l) : sortR l = l := (sortR_unique (List.Perm.refl l) h).symm
theorem sortR_again (l : List Rx) : sortR (sortR l) = sortR l := sortR_fix (sortR_order l)
theorem sortR_of_perm {l m : List Rx} (h : l.Perm m) : sortR l = sortR m := sortR_unique ((sortR_perm l).trans h) (sortR_order l)
/-- Each once: of such that are the same the first one alone. -/
def onceFrom : List Rx → List Rx → List Rx
  | out, [] => out
  | out, r :: l => if out.any (fun o => sameR o r) = true then onceFrom out l else onceFrom (out ++ [r]) l
def onceR (l : List Rx) : List Rx := onceFrom [] l
theorem any_same (l : List Rx) (r : Rx) : l.any (fun o => sameR o r) = true ↔ r ∈ l := by
  rw [List.any_eq_true]
  constructor
  · rintro ⟨x, hx, h⟩
    rw [(sameR_iff x r).1 h] at hx; exact hx
  · intro h; exact ⟨r, h, (sameR_iff r r).2 rfl⟩
theorem onceFrom_mem : ∀ (l out : List Rx) (x : Rx), x ∈ onceFrom out l ↔ x ∈ out ∨ x ∈ l
  | [], out, x => by simp [onceFrom]
  | r :: l, out, x => by
    unfold onceFrom
    split
    · rename_i h
      rw [any_same] at h
      rw [onceFrom_mem l out x]
      constructor
      · rintro (h1 | h1)
        · exact .inl h1
        · exact .inr (List.mem_cons_of_mem _ h1)
      · rintro (h1 | h1)
        · exact .inl h1
        · rcases List.mem_cons.1 h1 with rfl | h1
          · exact .inl h
          · exact .inr h1
    · rw [onceFrom_mem l (out ++ [r]) x]
      simp [or_assoc]
theorem onceFrom_nodup : ∀ (l out : List Rx), out.Nodup → (onceFrom out l).Nodup
  | [], out, h => by simpa [onceFrom] using h
  | r :: l, out, h => by
    unfold onceFrom
    split
    · exact onceFrom_nodup l out h
    · rename_i hn
      rw [any_same] at hn
      refine onceFrom_nodup l (out ++ [r]) ?_
      rw [List.nodup_append]
      refine ⟨h, by simp, fun a ha b hb => ?_⟩
      simp at hb; subst hb
      exact fun e => hn (e ▸ ha)
theorem onceR_mem (l : List Rx) (x : Rx) : x ∈ onceR l ↔ x ∈ l := by simp [onceR, onceFrom_mem]
theorem onceR_nodup (l : List Rx) : (onceR l).Nodup := onceFrom_nodup l [] List.nodup_nil
theorem onceFrom_fix : ∀ (l out : List Rx), (out ++ l).Nodup → onceFrom out l = out ++ l
  | [], out, _ => by simp [onceFrom]
  | r :: l, out, h => by
    have hn : ¬ (out.any (fun o => sameR o r) = true) := by
      rw [any_same]
      intro hr
      rw [List.nodup_append] at h
      exact h.2.2 r hr r (by simp) rfl
    unfold onceFrom
    rw [if_neg hn, onceFrom_fix l (out ++ [r]) (by simpa using h)]
    simp
theorem onceR_again (l : List Rx) : onceR (onceR l) = onceR l := onceFrom_fix (onceR l) [] (by simpa using onceR_nodup l)
/-- What stays of a row in order is in order. -/
theorem onceFrom_order : ∀ (l out : List Rx), InOrder (out ++ l) → InOrder (onceFrom out l)
  | [], out, h => by simpa [onceFrom] using h
  | r :: l, out, h => by
    unfold onceFrom
    split
    · refine onceFrom_order l out ?_
      unfold InOrder at *
      rw [List.pairwise_append] at h ⊢
      exact ⟨h.1, (List.pairwise_cons.1 h.2.1).2, fun a ha b hb => h.2.2 a ha b (List.mem_cons_of_mem _ hb)⟩
    · refine onceFrom_order l (out ++ [r]) ?_
      simpa using h
theorem onceR_order {l : List Rx} (h : InOrder l) : InOrder (onceR l) := onceFrom_order l [] (by simpa using h)
/-- However they stood, once and in order they are the same. -/
theorem sort_once (l : List Rx) : sortR (onceR l) = onceR (sortR l) := by
  refine (sortR_unique ?_ (onceR_order (sortR_order l))).symm
  rw [List.perm_ext_iff_of_nodup (onceR_nodup _) (onceR_nodup _)]
  intro x
  rw [onceR_mem, onceR_mem]
  exact (sortR_perm l).mem_iff
theorem sortR_length (l : List Rx) : (sortR l).length = l.length := (sortR_perm l).length_eq
end Go.Proofs.Ythkkeamjigmfhaa
