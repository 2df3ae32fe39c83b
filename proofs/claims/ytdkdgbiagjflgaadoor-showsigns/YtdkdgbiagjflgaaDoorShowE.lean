/- The texts of bytes and of words; no walk. -/
import Derived.Test.YtdkdgbiagjflgaaDoorShowC
import Derived.Test.YtdkdgbiagjflgaaDoorRexN
namespace Go.Proofs.YtdkdgbiagjflgaaDoor
theorem bytesN_one (n : Nat) (h : n < 256) : bytesN (ofN [n]) = [n] := by
  have e : bytesN (ofN [n]) = (List.range 256).filter fun m => [n].contains m := by
    unfold bytesN
    refine List.filter_congr fun m hm => ?_
    have hm' : m < 256 := by simpa using hm
    exact has_ofN [n] (by simpa using h) m hm'
  rw [e]
  have f : ∀ n : Fin 256, ((List.range 256).filter fun m => [n.1].contains m) = [n.1] := by decide +kernel
  exact f ⟨n, h⟩
theorem one_ne (n : Nat) (h : n < 256) : ofN [n] ≠ Ws.nil := fun e => by
  have h1 := bytesN_one n h
  rw [e] at h1
  have h2 : bytesN Ws.nil = [] := by decide
  rw [h2] at h1
  simp at h1
theorem textW_one (n : Nat) (h : n < 256) : textW (ofN [n]) = signL n := by
  unfold textW
  rw [bytesN_one n h]
  simp
theorem natsOf_one (c : UInt8) : natsOf [c] = [c.toNat] := rfl
def byteE (c : UInt8) : Ex := .cls (ofN (natsOf [c]))
theorem byteE_rx (c : UInt8) : (byteE c).rx = byteR c := by
  have hne : ofN (natsOf [c]) ≠ Ws.nil := one_ne c.toNat c.toNat_lt
  have : sameW (ofN (natsOf [c])) Ws.nil = false := by
    have : ¬ sameW (ofN (natsOf [c])) Ws.nil = true := fun e => hne (sameW_iff.1 e)
    simpa using this
  unfold byteR ofR byteE Ex.rx
  rw [this]; rfl
theorem byteE_wf (c : UInt8) : (byteE c).Wf := ⟨ofN_ok _, one_ne c.toNat c.toNat_lt⟩
theorem byteE_text (c : UInt8) : (byteE c).text = signL c.toNat := textW_one c.toNat c.toNat_lt
def wordE : List UInt8 → Ex
  | [] => .eps
  | [c] => byteE c
  | c :: d :: l => .seq (byteE c) (wordE (d :: l))
theorem wordE_rx : ∀ l : List UInt8, (wordE l).rx = foldR 4 2 (l.map byteR)
  | [] => rfl
  | [c] => by simp [wordE, foldR, byteE_rx]
  | c :: d :: l => by
    have ih := wordE_rx (d :: l)
    simp only [List.map_cons] at ih ⊢
    simp [wordE, foldR, Ex.rx, byteE_rx, ih]
theorem wordE_wf : ∀ l : List UInt8, (wordE l).Wf
  | [] => trivial
  | [c] => byteE_wf c
  | c :: d :: l => ⟨byteE_wf c, wordE_wf (d :: l)⟩
def signsL (l : List UInt8) : List UInt8 := l.flatMap fun c => signL c.toNat
theorem wordE_alt : ∀ l : List UInt8, (wordE l).isAlt = false
  | [] => rfl
  | [_] => rfl
  | _ :: _ :: _ => rfl
theorem wordE_text : ∀ l : List UInt8, l ≠ [] → (wordE l).text = signsL l
  | [], h => absurd rfl h
  | [c], _ => by simp [wordE, byteE_text, signsL]
  | c :: d :: l, _ => by
    have ih := wordE_text (d :: l) (by simp)
    have ha := wordE_alt (d :: l)
    rw [wordE, text_seq, part_text ha, ih]
    show (byteE c).text ++ signsL (d :: l) = _
    rw [byteE_text]
    simp [signsL]
theorem wordE_size : ∀ l : List UInt8, l ≠ [] → (wordE l).size + 1 = 2 * l.length
  | [], h => absurd rfl h
  | [c], _ => by simp [wordE, byteE, Ex.size]
  | c :: d :: l, _ => by
    have ih := wordE_size (d :: l) (by simp)
    have hb : (byteE c).size = 1 := rfl
    simp [wordE, Ex.size, hb] at ih ⊢
    omega
theorem may_of {e : Ex} (h : e.Wf) (hs : e.size ≤ 2000) : mayR e.rx = true := by
  unfold mayR mayN
  rw [good_ex e h, Ex.size_rx]
  simpa using hs
theorem star_word (l : List UInt8) (h : 2 ≤ l.length) : (Ex.star (wordE l)).text = 40 :: (signsL l ++ [41, 42]) := by
  match l, h with
  | c :: d :: l, _ =>
    have ht := wordE_text (c :: d :: l) (by simp)
    rw [text_star]
    show (40 :: ((wordE (c :: d :: l)).text ++ [41])) ++ [42] = _
    rw [ht]; simp
theorem signsL_take (l : List UInt8) (i : Nat) (h : i < l.length) : signsL (l.take (i + 1)) = signsL (l.take i) ++ signL l[i].toNat := by
  unfold signsL
  rw [List.take_succ_eq_append_getElem h, List.flatMap_append, List.flatMap_cons, List.flatMap_nil, List.append_nil]
theorem signsL_length (l : List UInt8) : (signsL l).length ≤ 3 * l.length := by
  induction l with
  | nil => simp [signsL]
  | cons c t ih =>
    have := signL_length c.toNat
    simp [signsL] at ih ⊢
    omega
/-- The document's example. -/
def awakeE : Ex := .seq (byteE 97) (.seq (.alt (byteE 98) (byteE 99)) (.star (byteE 97)))
theorem awakeE_wf : awakeE.Wf := ⟨byteE_wf _, ⟨byteE_wf _, byteE_wf _⟩, byteE_wf _⟩
theorem awakeE_text : awakeE.text = [97, 40, 98, 124, 99, 41, 97, 42] := by
  have h1 : (byteE 97).text = [97] := by rw [byteE_text]; decide +kernel
  have h2 : (byteE 98).text = [98] := by rw [byteE_text]; decide +kernel
  have h3 : (byteE 99).text = [99] := by rw [byteE_text]; decide +kernel
  have i1 : (byteE 97).item = (byteE 97).text := rfl
  have i2 : (byteE 98).part = (byteE 98).text := rfl
  have p1 : (Ex.star (byteE 97)).part = (Ex.star (byteE 97)).text := rfl
  show (byteE 97).item ++ ((Ex.alt (byteE 98) (byteE 99)).item ++ (Ex.star (byteE 97)).part) = _
  rw [item_alt, text_alt, p1, text_star, i1, i2, h1, h2, h3]
  rfl
theorem awakeE_rx : awakeE.rx = foldR 4 2 [byteR 97, foldR 5 1 [byteR 98, byteR 99], .node 6 Ws.nil [byteR 97]] := by
  simp [awakeE, Ex.rx, foldR, byteE_rx]
theorem awakeE_textX : textX (foldR 4 2 [byteR 97, foldR 5 1 [byteR 98, byteR 99], .node 6 Ws.nil [byteR 97]]) = [97, 40, 98, 124, 99, 41, 97, 42] := by
  rw [← awakeE_rx, textX_yes (may_of awakeE_wf (by decide)), awakeE_text]
end Go.Proofs.YtdkdgbiagjflgaaDoor
