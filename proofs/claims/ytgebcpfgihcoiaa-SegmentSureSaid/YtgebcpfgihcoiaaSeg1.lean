/- Segments behind a crash: what is laid is there; of what was not, a front. No program. -/
import Derived.Test.YtgebcpfgihcoiaaSeg0
namespace Go.Proofs.Ytgebcpfgihcoiaa
set_option maxRecDepth 100000
set_option linter.unusedVariables false

/-- Records with their epochs; how many blocks they have. -/
abbrev Recs := List (List UInt8 × Nat)
def usedP : Recs → Nat
  | [] => 0
  | r :: rs => needP r.1.length + usedP rs
def LaidAt (l : List (List UInt8)) : Nat → Nat → Recs → Prop
  | _, _, [] => True
  | p, pl, r :: rs => (r.1.length ≤ 4096 ∧ r.2 < 4294967296 ∧ p + needP r.1.length ≤ l.length ∧ ∀ i, i < needP r.1.length → l.getD (p + i) [] = blockP r.2 pl i (needP r.1.length) (partP r.1 i)) ∧ LaidAt l (p + needP r.1.length) (pl + 1) rs
def Up : Nat → Recs → Prop
  | _, [] => True
  | e, r :: rs => e ≤ r.2 ∧ Up r.2 rs
def lastE : Nat → Recs → Nat
  | e, [] => e
  | _, r :: rs => lastE r.2 rs
theorem usedP_append (a b : Recs) : usedP (a ++ b) = usedP a + usedP b := by
  induction a with
  | nil => simp [usedP]
  | cons r a ih => simp only [List.cons_append, usedP, ih]; omega
theorem lastE_append : ∀ (e : Nat) (a b : Recs), lastE e (a ++ b) = lastE (lastE e a) b
  | e, [], b => rfl
  | e, r :: a, b => lastE_append r.2 a b
theorem LaidAt.append {l : List (List UInt8)} : ∀ {p pl : Nat} {a b : Recs}, LaidAt l p pl a → LaidAt l (p + usedP a) (pl + a.length) b → LaidAt l p pl (a ++ b)
  | p, pl, [], b, _, h => by simpa [usedP] using h
  | p, pl, r :: a, b, h1, h2 => ⟨h1.1, LaidAt.append h1.2 (by
      simp only [usedP, List.length_cons] at h2
      rw [show p + needP r.1.length + usedP a = p + (needP r.1.length + usedP a) by omega, show pl + 1 + a.length = pl + (a.length + 1) by omega]
      exact h2)⟩
theorem LaidAt.fits {l : List (List UInt8)} : ∀ {p pl : Nat} {a : Recs}, p ≤ l.length → LaidAt l p pl a → p + usedP a ≤ l.length
  | p, pl, [], h0, _ => by simpa [usedP] using h0
  | p, pl, r :: a, h0, h => by
    have := LaidAt.fits h.1.2.2.1 h.2
    simp only [usedP]
    omega
/-- Only the blocks of what is laid count. -/
theorem LaidAt.congr {l l' : List (List UInt8)} (hl : l'.length = l.length) : ∀ {p pl : Nat} {a : Recs}, LaidAt l p pl a → (∀ i, p ≤ i → i < p + usedP a → l'.getD i [] = l.getD i []) → LaidAt l' p pl a
  | p, pl, [], _, _ => trivial
  | p, pl, r :: a, h, hc => ⟨⟨h.1.1, h.1.2.1, by rw [hl]; exact h.1.2.2.1, fun i hi => by rw [hc _ (by omega) (by simp only [usedP]; omega)]; exact h.1.2.2.2 i hi⟩,
      LaidAt.congr hl h.2 (fun i h1 h2 => hc i (by omega) (by simp only [usedP]; omega))⟩
theorem Up.append : ∀ {e : Nat} {a b : Recs}, Up e a → Up (lastE e a) b → Up e (a ++ b)
  | e, [], b, _, h => h
  | e, r :: a, b, h1, h2 => ⟨h1.1, Up.append h1.2 h2⟩
theorem Up.last : ∀ {e : Nat} {a : Recs}, Up e a → e ≤ lastE e a
  | e, [], _ => Nat.le_refl _
  | e, r :: a, h => Nat.le_trans h.1 h.2.last

theorem walkP_succ (l : List (List UInt8)) (f p pl e : Nat) : walkP l (f + 1) p pl e = match takeP l p pl e with
    | none => ([], p)
    | some (b, m, x) => (b :: (walkP l f (p + m) (pl + 1) x).1, (walkP l f (p + m) (pl + 1) x).2) := rfl
theorem walkP_none {l : List (List UInt8)} {f p pl e : Nat} (h : takeP l p pl e = none) : walkP l f p pl e = ([], p) := by
  cases f with
  | zero => rfl
  | succ f => rw [walkP_succ, h]
/-- What is laid is walked. -/
theorem walk_laid {l : List (List UInt8)} : ∀ {rs : Recs} {f p pl e : Nat}, LaidAt l p pl rs → Up e rs → pl + rs.length < 4294967296 → rs.length ≤ f → takeP l (p + usedP rs) (pl + rs.length) (lastE e rs) = none → walkP l f p pl e = (rs.map (·.1), p + usedP rs)
  | [], f, p, pl, e, _, _, _, _, hn => by
    simp only [usedP, Nat.add_zero, List.length_nil, lastE] at hn
    rw [walkP_none hn]
    simp [usedP]
  | r :: rs, 0, p, pl, e, _, _, _, hf, _ => by simp at hf
  | r :: rs, f + 1, p, pl, e, h, hu, hpl, hf, hn => by
    simp only [List.length_cons] at hpl hf
    have ht := take_laid (l := l) (p := p) (pl := pl) (e0 := e) h.1.2.1 (by omega) h.1.1 hu.1 h.1.2.2.1 h.1.2.2.2
    have ih := walk_laid (f := f) h.2 hu.2 (by omega) (by omega) (by
      simp only [usedP, List.length_cons, lastE] at hn
      rw [show p + needP r.1.length + usedP rs = p + (needP r.1.length + usedP rs) by omega, show pl + 1 + rs.length = pl + (rs.length + 1) by omega]
      exact hn)
    rw [walkP_succ, ht]
    dsimp only
    rw [ih]
    simp only [List.map_cons, usedP]
    rw [Nat.add_assoc]

theorem three_of {l : List UInt8} (h : 3 ≤ l.length) : ∃ a b c r, l = a :: b :: c :: r := by
  rcases l with _ | ⟨a, _ | ⟨b, _ | ⟨c, r⟩⟩⟩
  · simp at h
  · simp at h
  · simp at h
  · exact ⟨a, b, c, r, rfl⟩
/-- A torn block is the new one, the old one, or is not right. -/
theorem torn_right {N O : List UInt8} {k E : Nat} (hN : N.length = 64) (hO : O.length = 64) (hk : k ≤ 64) (hE : E < 256) (hN4 : N.take 4 = fourOf E) (hO0 : numP O 0 < 256) (hO6 : numP O 60 < E) (hr : rightP (tear k N O) = true) :
    tear k N O = N ∨ tear k N O = O := by
  have n0 : N.take 3 = [0, 0, 0] := by
    have := congrArg (List.take 3) hN4
    rw [List.take_take] at this
    rw [show min 3 4 = 3 by omega] at this
    rw [this]
    simp [fourOf]
    refine ⟨?_, ?_, ?_⟩ <;> (apply UInt8.toNat_inj.1; simp; omega)
  have o0 : O.take 3 = [0, 0, 0] := by
    obtain ⟨a, b, c, r, rfl⟩ := three_of (l := O) (by omega)
    simp [numP, byteP] at hO0
    have ha : a.toNat = 0 := by omega
    have hb : b.toNat = 0 := by omega
    have hc : c.toNat = 0 := by omega
    simp
    exact ⟨UInt8.toNat_inj.1 (by simpa using ha), UInt8.toNat_inj.1 (by simpa using hb), UInt8.toNat_inj.1 (by simpa using hc)⟩
  by_cases h64 : k = 64
  · left
    subst h64
    unfold tear
    rw [List.take_of_length_le (by omega), List.drop_eq_nil_of_le (by omega), List.append_nil]
  by_cases h3 : k ≤ 3
  · right
    unfold tear
    have e : N.take k = O.take k := by
      have h1 := congrArg (List.take k) n0
      have h2 := congrArg (List.take k) o0
      rw [List.take_take, Nat.min_eq_left h3] at h1 h2
      rw [h1, h2]
    rw [e, List.take_append_drop]
  · exfalso
    unfold rightP at hr
    simp at hr
    have h4 := hr.2
    have hb : (tear k N O)[63]? = O[63]? := by rw [tear_get hN hO (by omega), if_neg (by omega)]
    have ha : (tear k N O)[3]? = N[3]? := by rw [tear_get hN hO (by omega), if_pos (by omega)]
    have hn3 : N[3]? = some (UInt8.ofNat E) := by
      have := congrArg (fun l => l[3]?) hN4
      simp [fourOf] at this
      simpa [List.getElem?_take] using this
    have e3 : (tear k N O)[3]? = (tear k N O)[63]? := by
      have := congrArg (fun l => l[3]?) h4
      simpa [List.getElem?_take, List.getElem?_drop] using this
    rw [ha, hb, hn3] at e3
    have : byteP O 63 = E := by
      unfold byteP
      rw [List.getD_eq_getElem?_getD, ← e3]
      simp; omega
    unfold numP at hO6
    simp only [Nat.reduceAdd] at hO6
    omega
end Go.Proofs.Ytgebcpfgihcoiaa
