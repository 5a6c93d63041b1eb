/- Texts laid as one: Seg0, Seg1, Seg2, Seg3. -/
import Derived.Test.YtdllgmhipenidaaCrcM
import Derived.Test.YtdllgmhipenidaaDisk0

section
/- Segments as the document has them: plain lists. No program. -/
namespace Go.Proofs.Ytdllgmhipenidaa
set_option maxRecDepth 100000
set_option linter.unusedVariables false

/-- How many parts a record of so many bytes has. -/
def needP (n : Nat) : Nat := if n ≤ 45 then 1 else (n + 44) / 45
def partP (s : List UInt8) (k : Nat) : List UInt8 := (s.drop (45 * k)).take 45
def headP (e pl k m q : Nat) : List UInt8 := fourOf e ++ fourOf (pl + 1) ++ [UInt8.ofNat k, UInt8.ofNat m, UInt8.ofNat q]
def bodyP (e pl k m : Nat) (p : List UInt8) : List UInt8 := headP e pl k m p.length ++ (p ++ List.replicate (45 - p.length) 0)
/-- A part's block. -/
def blockP (e pl k m : Nat) (p : List UInt8) : List UInt8 := sealedOf (bodyP e pl k m p) ++ fourOf e
def byteP (b : List UInt8) (i : Nat) : Nat := (b.getD i 0).toNat
def numP (b : List UInt8) (i : Nat) : Nat := byteP b i * 16777216 + byteP b (i + 1) * 65536 + byteP b (i + 2) * 256 + byteP b (i + 3)
/-- Its sum is right, its stamps are one. -/
def rightP (b : List UInt8) : Bool := rightOf (b.take 60) && decide (b.take 4 = b.drop 60)
/-- It is this part of a record. -/
def fitsP (b : List UInt8) (x pl i m : Nat) : Bool :=
  rightP b && decide (byteP b 10 ≤ 45 ∧ (i + 1 < m → 45 ≤ byteP b 10) ∧ (0 < i → byteP b 10 ≠ 0)) && decide (numP b 0 = x ∧ numP b 4 = pl + 1 ∧ byteP b 8 = i ∧ byteP b 9 = m)
def dataP (b : List UInt8) : List UInt8 := (b.drop 11).take (byteP b 10)
/-- The first so many parts of what begins at a block. -/
def joinP (l : List (List UInt8)) (p i : Nat) : List UInt8 := ((List.range i).map fun k => dataP (l.getD (p + k) [])).flatten
/-- The record that begins at a block, how many parts it has, its epoch. -/
def takeP (l : List (List UInt8)) (p pl e : Nat) : Option (List UInt8 × Nat × Nat) :=
  if p < l.length ∧ rightP (l.getD p []) = true ∧ 1 ≤ byteP (l.getD p []) 9 ∧ byteP (l.getD p []) 9 ≤ 92 ∧ e ≤ numP (l.getD p []) 0 ∧ p + byteP (l.getD p []) 9 ≤ l.length ∧
      (∀ i, i < byteP (l.getD p []) 9 → fitsP (l.getD (p + i) []) (numP (l.getD p []) 0) pl i (byteP (l.getD p []) 9) = true) then
    some (joinP l p (byteP (l.getD p []) 9), byteP (l.getD p []) 9, numP (l.getD p []) 0)
  else none
/-- All records from a block on; the block behind them. -/
def walkP (l : List (List UInt8)) : Nat → Nat → Nat → Nat → List (List UInt8) × Nat
  | 0, p, _, _ => ([], p)
  | f + 1, p, pl, e => match takeP l p pl e with
    | none => ([], p)
    | some (b, m, x) => (b :: (walkP l f (p + m) (pl + 1) x).1, (walkP l f (p + m) (pl + 1) x).2)
/-- The greatest stamp. -/
def stampP (l : List (List UInt8)) : Nat := l.foldl (fun t b => max (max t (numP b 0)) (numP b 60)) 0
/-- A segment, but for its disk. -/
structure PSeg where
  start : Nat
  n : Nat
  epoch : Nat
  L : List (List UInt8)
  used : Nat
  sure : Nat
  gone : Nat
  err : Int
def segOpen (l : List (List UInt8)) (start : Nat) : PSeg := ⟨start, l.length, stampP l + 1, (walkP l (l.length + 1) 0 0 0).1, (walkP l (l.length + 1) 0 0 0).2, (walkP l (l.length + 1) 0 0 0).1.length, 0, 0⟩
def recP (e pl : Nat) (s : List UInt8) : List (List UInt8) := (List.range (needP s.length)).map fun i => blockP e pl i (needP s.length) (partP s i)
/-- Blocks written one behind the other, to the first error. -/
def putsP : PD → Nat → List (List UInt8) → PD × Int
  | d, _, [] => (d, 0)
  | d, p, b :: bs => if (d.write (p : Int) b).2 ≠ 0 then d.write (p : Int) b else putsP (d.write (p : Int) b).1 (p + 1) bs
def PSeg.append (s : PSeg) (d : PD) (b : List UInt8) : PD × PSeg × Int × Int :=
  if 4096 < b.length then (d, s, 0, 13) else if s.err ≠ 0 then (d, s, 0, s.err) else if s.n - s.used < needP b.length then (d, s, 0, 21) else
  if (putsP d (s.start + s.used) (recP s.epoch s.L.length b)).2 ≠ 0 then
    ((putsP d (s.start + s.used) (recP s.epoch s.L.length b)).1, { s with err := (putsP d (s.start + s.used) (recP s.epoch s.L.length b)).2 }, 0, (putsP d (s.start + s.used) (recP s.epoch s.L.length b)).2)
  else ((putsP d (s.start + s.used) (recP s.epoch s.L.length b)).1, { s with L := s.L ++ [b], used := s.used + needP b.length }, (s.L.length : Int), 0)
def PSeg.sync (s : PSeg) (d : PD) : PD × PSeg × Int :=
  if s.err ≠ 0 then (d, s, s.err) else if d.sync.2 ≠ 0 then (d.sync.1, { s with err := d.sync.2 }, d.sync.2) else (d.sync.1, { s with sure := s.L.length }, 0)
def PSeg.read (s : PSeg) (k : Int) : List UInt8 × Int := if k < 0 ∨ (s.L.length : Int) ≤ k then ([], 15) else if k < (s.gone : Int) then ([], 35) else (s.L.getD k.toNat [], 0)
def PSeg.trim (s : PSeg) (k : Int) : PSeg := { s with gone := max s.gone (min k (s.sure : Int)).toNat }

theorem needP_pos (n : Nat) : 1 ≤ needP n := by unfold needP; split <;> omega
theorem needP_le {n : Nat} (h : n ≤ 4096) : needP n ≤ 92 := by unfold needP; split <;> omega
theorem needP_last (n i : Nat) (h : i + 1 < needP n) : 45 * (i + 1) < n := by unfold needP at h; split at h <;> omega
theorem needP_some (n i : Nat) (h : i < needP n) (h0 : 0 < i) : 45 * i < n := by unfold needP at h; split at h <;> omega
theorem needP_end (n : Nat) : n ≤ 45 * needP n := by unfold needP; split <;> omega
theorem partP_length (s : List UInt8) (k : Nat) : (partP s k).length = min 45 (s.length - 45 * k) := by simp [partP]
theorem fourOf_length (x : Nat) : (fourOf x).length = 4 := rfl
theorem bodyP_length {e pl k m : Nat} {p : List UInt8} (h : p.length ≤ 45) : (bodyP e pl k m p).length = 56 := by simp [bodyP, headP, fourOf]; omega
theorem blockP_length {e pl k m : Nat} {p : List UInt8} (h : p.length ≤ 45) : (blockP e pl k m p).length = 64 := by
  simp only [blockP, List.length_append, sealedOf_length, bodyP_length h, fourOf_length]
theorem blockP_take4 (e pl k m : Nat) (p : List UInt8) : (blockP e pl k m p).take 4 = fourOf e := by simp [blockP, sealedOf, bodyP, headP, fourOf]
theorem blockP_take60 {e pl k m : Nat} {p : List UInt8} (h : p.length ≤ 45) : (blockP e pl k m p).take 60 = sealedOf (bodyP e pl k m p) := by
  unfold blockP
  rw [List.take_left' (by rw [sealedOf_length, bodyP_length h])]
theorem blockP_drop60 {e pl k m : Nat} {p : List UInt8} (h : p.length ≤ 45) : (blockP e pl k m p).drop 60 = fourOf e := by
  unfold blockP
  rw [List.drop_left' (by rw [sealedOf_length, bodyP_length h])]
theorem blockP_right {e pl k m : Nat} {p : List UInt8} (h : p.length ≤ 45) : rightP (blockP e pl k m p) = true := by
  unfold rightP
  rw [blockP_take60 h, blockP_take4, blockP_drop60 h, rightOf_sealed]
  simp
theorem fourOf_num {e : Nat} (h : e < 4294967296) : (UInt8.ofNat (e / 16777216)).toNat * 16777216 + (UInt8.ofNat (e / 65536)).toNat * 65536 + (UInt8.ofNat (e / 256)).toNat * 256 + (UInt8.ofNat e).toNat = e := by
  simp only [UInt8.toNat_ofNat']
  omega
theorem blockP_num0 {e pl k m : Nat} {p : List UInt8} (h : e < 4294967296) : numP (blockP e pl k m p) 0 = e := by
  simp [numP, byteP, blockP, sealedOf, bodyP, headP, fourOf]
  omega
theorem blockP_num4 {e pl k m : Nat} {p : List UInt8} (h : pl + 1 < 4294967296) : numP (blockP e pl k m p) 4 = pl + 1 := by
  simp [numP, byteP, blockP, sealedOf, bodyP, headP, fourOf]
  omega
theorem blockP_8 {e pl k m : Nat} {p : List UInt8} (h : k < 256) : byteP (blockP e pl k m p) 8 = k := by
  simp [byteP, blockP, sealedOf, bodyP, headP, fourOf]; omega
theorem blockP_9 {e pl k m : Nat} {p : List UInt8} (h : m < 256) : byteP (blockP e pl k m p) 9 = m := by
  simp [byteP, blockP, sealedOf, bodyP, headP, fourOf]; omega
theorem blockP_10 {e pl k m : Nat} {p : List UInt8} (h : p.length ≤ 45) : byteP (blockP e pl k m p) 10 = p.length := by
  simp [byteP, blockP, sealedOf, bodyP, headP, fourOf]; omega
theorem blockP_data {e pl k m : Nat} {p : List UInt8} (h : p.length ≤ 45) : dataP (blockP e pl k m p) = p := by
  unfold dataP
  rw [blockP_10 h]
  simp [blockP, sealedOf, bodyP, headP, fourOf]
theorem blockP_num60 {e pl k m : Nat} {p : List UInt8} (hp : p.length ≤ 45) (h : e < 4294967296) : numP (blockP e pl k m p) 60 = e := by
  have hd := blockP_drop60 (e := e) (pl := pl) (k := k) (m := m) hp
  have key : ∀ i, i < 4 → (blockP e pl k m p).getD (60 + i) 0 = (fourOf e).getD i 0 := fun i hi => by
    rw [← hd]
    simp [List.getD_eq_getElem?_getD, List.getElem?_drop]
  have k0 := key 0 (by omega)
  have k1 := key 1 (by omega)
  have k2 := key 2 (by omega)
  have k3 := key 3 (by omega)
  unfold numP byteP
  simp only [Nat.reduceAdd, Nat.add_zero] at k0 k1 k2 k3 ⊢
  rw [k0, k1, k2, k3]
  have hf := fourOf_num h
  simp only [fourOf, List.getD_cons_zero, List.getD_cons_succ]
  exact hf
theorem blockP_fits {e pl i : Nat} {s : List UInt8} (he : e < 4294967296) (hpl : pl + 1 < 4294967296) (hs : s.length ≤ 4096) (hi : i < needP s.length) :
    fitsP (blockP e pl i (needP s.length) (partP s i)) e pl i (needP s.length) = true := by
  have hm := needP_le hs
  have hp : (partP s i).length ≤ 45 := by rw [partP_length]; omega
  have h1 := needP_last s.length i
  have h2 := needP_some s.length i hi
  unfold fitsP
  rw [blockP_right hp, blockP_num0 he, blockP_num4 hpl, blockP_8 (by omega), blockP_9 (by omega), blockP_10 hp, partP_length]
  simp
  omega
theorem parts_join (s : List UInt8) : ∀ k, ((List.range k).map fun i => partP s i).flatten = s.take (45 * k)
  | 0 => by simp
  | k + 1 => by
    rw [List.range_succ, List.map_append, List.flatten_append, parts_join s k]
    simp only [List.map_cons, List.map_nil, List.flatten_cons, List.flatten_nil, List.append_nil, partP]
    rw [show 45 * (k + 1) = 45 * k + 45 by omega, List.take_add]
theorem recP_length (e pl : Nat) (s : List UInt8) : (recP e pl s).length = needP s.length := by simp [recP]
/-- A record that is laid is taken. -/
theorem take_laid {l : List (List UInt8)} {p pl e0 e : Nat} {s : List UInt8} (he : e < 4294967296) (hpl : pl + 1 < 4294967296) (hs : s.length ≤ 4096) (h0 : e0 ≤ e) (hfit : p + needP s.length ≤ l.length)
    (h : ∀ i, i < needP s.length → l.getD (p + i) [] = blockP e pl i (needP s.length) (partP s i)) : takeP l p pl e0 = some (s, needP s.length, e) := by
  have hm := needP_le hs
  have hm1 := needP_pos s.length
  have hb := h 0 (by omega)
  rw [Nat.add_zero] at hb
  have hp : (partP s 0).length ≤ 45 := by rw [partP_length]; omega
  have hj : joinP l p (needP s.length) = s := by
    unfold joinP
    rw [show ((List.range (needP s.length)).map fun k => dataP (l.getD (p + k) [])) = (List.range (needP s.length)).map fun i => partP s i from List.map_congr_left fun i hi => by
      rw [h i (List.mem_range.1 hi), blockP_data (by rw [partP_length]; omega)], parts_join, List.take_of_length_le (needP_end _)]
  unfold takeP
  rw [hb, blockP_right hp, blockP_9 (by omega), blockP_num0 he, hj, if_pos]
  refine ⟨by omega, rfl, hm1, hm, h0, hfit, fun i hi => ?_⟩
  rw [h i hi]
  exact blockP_fits he hpl hs hi
end Go.Proofs.Ytdllgmhipenidaa
end

section
/- Segments behind a crash: what is laid is there; of what was not, a front. No program. -/
namespace Go.Proofs.Ytdllgmhipenidaa
set_option maxRecDepth 100000
set_option linter.unusedVariables false

/-- Records with their epochs; how many blocks they have. -/
abbrev Recs := List (List UInt8 × Nat)
def usedP : Recs → Nat
  | [] => 0
  | r :: rs => needP r.1.length + usedP rs
def LaidAt (l : List (List UInt8)) : Nat → Nat → Recs → Prop
  | _, _, [] => True
  | p, pl, r :: rs => (r.1.length ≤ 4096 ∧ r.2 < 4294967296 ∧ p + needP r.1.length ≤ l.length ∧ ∀ i, i < needP r.1.length → l.getD (p + i) [] = blockP r.2 pl i (needP r.1.length) (partP r.1 i)) ∧ LaidAt l (p + needP r.1.length) (pl + 1) rs
def Up : Nat → Recs → Prop
  | _, [] => True
  | e, r :: rs => e ≤ r.2 ∧ Up r.2 rs
def lastE : Nat → Recs → Nat
  | e, [] => e
  | _, r :: rs => lastE r.2 rs
theorem usedP_append (a b : Recs) : usedP (a ++ b) = usedP a + usedP b := by
  induction a with
  | nil => simp [usedP]
  | cons r a ih => simp only [List.cons_append, usedP, ih]; omega
theorem lastE_append : ∀ (e : Nat) (a b : Recs), lastE e (a ++ b) = lastE (lastE e a) b
  | e, [], b => rfl
  | e, r :: a, b => lastE_append r.2 a b
theorem LaidAt.append {l : List (List UInt8)} : ∀ {p pl : Nat} {a b : Recs}, LaidAt l p pl a → LaidAt l (p + usedP a) (pl + a.length) b → LaidAt l p pl (a ++ b)
  | p, pl, [], b, _, h => by simpa [usedP] using h
  | p, pl, r :: a, b, h1, h2 => ⟨h1.1, LaidAt.append h1.2 (by
      simp only [usedP, List.length_cons] at h2
      rw [show p + needP r.1.length + usedP a = p + (needP r.1.length + usedP a) by omega, show pl + 1 + a.length = pl + (a.length + 1) by omega]
      exact h2)⟩
theorem LaidAt.fits {l : List (List UInt8)} : ∀ {p pl : Nat} {a : Recs}, p ≤ l.length → LaidAt l p pl a → p + usedP a ≤ l.length
  | p, pl, [], h0, _ => by simpa [usedP] using h0
  | p, pl, r :: a, h0, h => by
    have := LaidAt.fits h.1.2.2.1 h.2
    simp only [usedP]
    omega
/-- Only the blocks of what is laid count. -/
theorem LaidAt.congr {l l' : List (List UInt8)} (hl : l'.length = l.length) : ∀ {p pl : Nat} {a : Recs}, LaidAt l p pl a → (∀ i, p ≤ i → i < p + usedP a → l'.getD i [] = l.getD i []) → LaidAt l' p pl a
  | p, pl, [], _, _ => trivial
  | p, pl, r :: a, h, hc => ⟨⟨h.1.1, h.1.2.1, by rw [hl]; exact h.1.2.2.1, fun i hi => by rw [hc _ (by omega) (by simp only [usedP]; omega)]; exact h.1.2.2.2 i hi⟩,
      LaidAt.congr hl h.2 (fun i h1 h2 => hc i (by omega) (by simp only [usedP]; omega))⟩
theorem Up.append : ∀ {e : Nat} {a b : Recs}, Up e a → Up (lastE e a) b → Up e (a ++ b)
  | e, [], b, _, h => h
  | e, r :: a, b, h1, h2 => ⟨h1.1, Up.append h1.2 h2⟩
theorem Up.last : ∀ {e : Nat} {a : Recs}, Up e a → e ≤ lastE e a
  | e, [], _ => Nat.le_refl _
  | e, r :: a, h => Nat.le_trans h.1 h.2.last

theorem walkP_succ (l : List (List UInt8)) (f p pl e : Nat) : walkP l (f + 1) p pl e = match takeP l p pl e with
    | none => ([], p)
    | some (b, m, x) => (b :: (walkP l f (p + m) (pl + 1) x).1, (walkP l f (p + m) (pl + 1) x).2) := rfl
theorem walkP_none {l : List (List UInt8)} {f p pl e : Nat} (h : takeP l p pl e = none) : walkP l f p pl e = ([], p) := by
  cases f with
  | zero => rfl
  | succ f => rw [walkP_succ, h]
/-- What is laid is walked. -/
theorem walk_laid {l : List (List UInt8)} : ∀ {rs : Recs} {f p pl e : Nat}, LaidAt l p pl rs → Up e rs → pl + rs.length < 4294967296 → rs.length ≤ f → takeP l (p + usedP rs) (pl + rs.length) (lastE e rs) = none → walkP l f p pl e = (rs.map (·.1), p + usedP rs)
  | [], f, p, pl, e, _, _, _, _, hn => by
    simp only [usedP, Nat.add_zero, List.length_nil, lastE] at hn
    rw [walkP_none hn]
    simp [usedP]
  | r :: rs, 0, p, pl, e, _, _, _, hf, _ => by simp at hf
  | r :: rs, f + 1, p, pl, e, h, hu, hpl, hf, hn => by
    simp only [List.length_cons] at hpl hf
    have ht := take_laid (l := l) (p := p) (pl := pl) (e0 := e) h.1.2.1 (by omega) h.1.1 hu.1 h.1.2.2.1 h.1.2.2.2
    have ih := walk_laid (f := f) h.2 hu.2 (by omega) (by omega) (by
      simp only [usedP, List.length_cons, lastE] at hn
      rw [show p + needP r.1.length + usedP rs = p + (needP r.1.length + usedP rs) by omega, show pl + 1 + rs.length = pl + (rs.length + 1) by omega]
      exact hn)
    rw [walkP_succ, ht]
    dsimp only
    rw [ih]
    simp only [List.map_cons, usedP]
    rw [Nat.add_assoc]

theorem three_of {l : List UInt8} (h : 3 ≤ l.length) : ∃ a b c r, l = a :: b :: c :: r := by
  rcases l with _ | ⟨a, _ | ⟨b, _ | ⟨c, r⟩⟩⟩
  · simp at h
  · simp at h
  · simp at h
  · exact ⟨a, b, c, r, rfl⟩
/-- A torn block is the new one, the old one, or is not right. -/
theorem torn_right {N O : List UInt8} {k E : Nat} (hN : N.length = 64) (hO : O.length = 64) (hk : k ≤ 64) (hE : E < 256) (hN4 : N.take 4 = fourOf E) (hO0 : numP O 0 < 256) (hO6 : numP O 60 < E) (hr : rightP (tear k N O) = true) :
    tear k N O = N ∨ tear k N O = O := by
  have n0 : N.take 3 = [0, 0, 0] := by
    have := congrArg (List.take 3) hN4
    rw [List.take_take] at this
    rw [show min 3 4 = 3 by omega] at this
    rw [this]
    simp [fourOf]
    refine ⟨?_, ?_, ?_⟩ <;> (apply UInt8.toNat_inj.1; simp; omega)
  have o0 : O.take 3 = [0, 0, 0] := by
    obtain ⟨a, b, c, r, rfl⟩ := three_of (l := O) (by omega)
    simp [numP, byteP] at hO0
    have ha : a.toNat = 0 := by omega
    have hb : b.toNat = 0 := by omega
    have hc : c.toNat = 0 := by omega
    simp
    exact ⟨UInt8.toNat_inj.1 (by simpa using ha), UInt8.toNat_inj.1 (by simpa using hb), UInt8.toNat_inj.1 (by simpa using hc)⟩
  by_cases h64 : k = 64
  · left
    subst h64
    unfold tear
    rw [List.take_of_length_le (by omega), List.drop_eq_nil_of_le (by omega), List.append_nil]
  by_cases h3 : k ≤ 3
  · right
    unfold tear
    have e : N.take k = O.take k := by
      have h1 := congrArg (List.take k) n0
      have h2 := congrArg (List.take k) o0
      rw [List.take_take, Nat.min_eq_left h3] at h1 h2
      rw [h1, h2]
    rw [e, List.take_append_drop]
  · exfalso
    unfold rightP at hr
    simp at hr
    have h4 := hr.2
    have hb : (tear k N O)[63]? = O[63]? := by rw [tear_get hN hO (by omega), if_neg (by omega)]
    have ha : (tear k N O)[3]? = N[3]? := by rw [tear_get hN hO (by omega), if_pos (by omega)]
    have hn3 : N[3]? = some (UInt8.ofNat E) := by
      have := congrArg (fun l => l[3]?) hN4
      simp [fourOf] at this
      simpa [List.getElem?_take] using this
    have e3 : (tear k N O)[3]? = (tear k N O)[63]? := by
      have := congrArg (fun l => l[3]?) h4
      simpa [List.getElem?_take, List.getElem?_drop] using this
    rw [ha, hb, hn3] at e3
    have : byteP O 63 = E := by
      unfold byteP
      rw [List.getD_eq_getElem?_getD, ← e3]
      simp; omega
    unfold numP at hO6
    simp only [Nat.reduceAdd] at hO6
    omega
end Go.Proofs.Ytdllgmhipenidaa
end

section
/- Segments behind a crash: a front of what was not sure stands, and nothing else. No program. -/
namespace Go.Proofs.Ytdllgmhipenidaa
set_option maxRecDepth 100000
set_option linter.unusedVariables false

theorem getD_set (L : List (List UInt8)) (u i : Nat) (x : List UInt8) (hi : i < L.length) : (L.set u x).getD i [] = if u = i then x else L.getD i [] := by
  simp only [List.getD_eq_getElem?_getD, List.getElem?_set]
  split
  · subst_vars; simp [hi]
  · rfl
/-- Writes that wait, one behind the other. -/
def rowW : Nat → List (List UInt8) → List (Nat × List UInt8)
  | _, [] => []
  | u, b :: bs => (u, b) :: rowW (u + 1) bs
theorem rowW_length : ∀ (u : Nat) (bs : List (List UInt8)), (rowW u bs).length = bs.length
  | _, [] => rfl
  | u, b :: bs => by simp [rowW, rowW_length (u + 1) bs]
theorem rowW_append : ∀ (u : Nat) (a b : List (List UInt8)), rowW u (a ++ b) = rowW u a ++ rowW (u + a.length) b
  | u, [], b => rfl
  | u, x :: a, b => by
    simp only [List.cons_append, rowW, rowW_append (u + 1) a b, List.length_cons]
    rw [show u + 1 + a.length = u + (a.length + 1) by omega]
theorem rowW_mem : ∀ {u : Nat} {bs : List (List UInt8)} {x : Nat × List UInt8}, x ∈ rowW u bs → u ≤ x.1 ∧ x.1 < u + bs.length ∧ x.2 ∈ bs
  | u, [], x, h => by cases h
  | u, b :: bs, x, h => by
    simp only [rowW, List.mem_cons] at h
    rcases h with rfl | h
    · simp
    · obtain ⟨h1, h2, h3⟩ := rowW_mem h
      simp only [List.length_cons]
      exact ⟨by omega, by omega, List.mem_cons_of_mem _ h3⟩
theorem lay_row : ∀ (bs : List (List UInt8)) (u : Nat) (L : List (List UInt8)) (i : Nat), i < L.length → (layAll L (rowW u bs)).getD i [] = if u ≤ i ∧ i < u + bs.length then bs.getD (i - u) [] else L.getD i []
  | [], u, L, i, hi => by rw [if_neg (by simp <;> omega)]; rfl
  | b :: bs, u, L, i, hi => by
    simp only [rowW, layAll]
    rw [lay_row bs (u + 1) (L.set u b) i (by simpa using hi), getD_set L u i b hi]
    by_cases hu : u = i
    · subst hu
      rw [if_neg (by omega), if_pos rfl, if_pos (by simp)]
      simp
    · rw [if_neg hu]
      by_cases h2 : u + 1 ≤ i ∧ i < u + 1 + bs.length
      · rw [if_pos h2, if_pos (by simp <;> omega), show i - u = (i - (u + 1)) + 1 by omega, List.getD_cons_succ]
      · rw [if_neg h2, if_neg (by simp <;> omega)]
theorem crash_row : ∀ (bs : List (List UInt8)) (u : Nat) (L : List (List UInt8)) (ps : List UInt8) (i : Nat), i < L.length → ∃ k, k ≤ 64 ∧ (crashL L (rowW u bs) ps).getD i [] = if u ≤ i ∧ i < u + bs.length then tear k (bs.getD (i - u) []) (L.getD i []) else L.getD i []
  | [], u, L, ps, i, hi => ⟨0, by omega, by rw [if_neg (by simp <;> omega)]; rfl⟩
  | b :: bs, u, L, [], i, hi => ⟨0, by omega, by rw [crashL_nil, tear_zero]; simp⟩
  | b :: bs, u, L, p :: ps, i, hi => by
    simp only [rowW, crashL]
    obtain ⟨k, hk, e⟩ := crash_row bs (u + 1) (L.set u (tear (p.toNat % 65) b (L.getD u []))) ps i (by simpa using hi)
    rw [getD_set L u i _ hi] at e
    by_cases hu : u = i
    · subst hu
      refine ⟨p.toNat % 65, by omega, ?_⟩
      rw [e, if_neg (by omega), if_pos rfl, if_pos (by simp)]
      simp
    · refine ⟨k, hk, ?_⟩
      rw [e, if_neg hu]
      by_cases h2 : u + 1 ≤ i ∧ i < u + 1 + bs.length
      · rw [if_pos h2, if_pos (by simp <;> omega), show i - u = (i - (u + 1)) + 1 by omega, List.getD_cons_succ]
      · rw [if_neg h2, if_neg (by simp <;> omega)]

/-- The blocks of records of one epoch. -/
def blocksOf (E : Nat) : Nat → List (List UInt8) → List (List UInt8)
  | _, [] => []
  | pl, s :: ss => recP E pl s ++ blocksOf E (pl + 1) ss
def with_ (E : Nat) (ss : List (List UInt8)) : Recs := ss.map fun s => (s, E)
theorem with_append (E : Nat) (a b : List (List UInt8)) : with_ E (a ++ b) = with_ E a ++ with_ E b := List.map_append
theorem with_fst (E : Nat) (a : List (List UInt8)) : (with_ E a).map (·.1) = a := by
  induction a with
  | nil => rfl
  | cons s a ih => simp only [with_, List.map_cons] at ih ⊢; rw [ih]
theorem with_length (E : Nat) (a : List (List UInt8)) : (with_ E a).length = a.length := by simp [with_]
theorem blocksOf_length (E : Nat) : ∀ (pl : Nat) (ss : List (List UInt8)), (blocksOf E pl ss).length = usedP (with_ E ss)
  | _, [] => rfl
  | pl, s :: ss => by
    simp only [blocksOf, List.length_append, recP_length, blocksOf_length E (pl + 1) ss]
    rfl
theorem blocksOf_append (E : Nat) : ∀ (pl : Nat) (a b : List (List UInt8)), blocksOf E pl (a ++ b) = blocksOf E pl a ++ blocksOf E (pl + a.length) b
  | pl, [], b => rfl
  | pl, s :: a, b => by
    simp only [List.cons_append, blocksOf, blocksOf_append E (pl + 1) a b, List.append_assoc, List.length_cons]
    rw [show pl + 1 + a.length = pl + (a.length + 1) by omega]
theorem recP_get {E pl : Nat} {s : List UInt8} {i : Nat} (hi : i < needP s.length) : (recP E pl s).getD i [] = blockP E pl i (needP s.length) (partP s i) := by
  simp [recP, List.getD_eq_getElem?_getD, hi]
/-- Each of them is a part's block of that epoch. -/
theorem blocksOf_mem {E : Nat} : ∀ {pl : Nat} {ss : List (List UInt8)} {b : List UInt8}, b ∈ blocksOf E pl ss → ∃ pl k m p, b = blockP E pl k m p ∧ p.length ≤ 45
  | pl, [], b, h => by cases h
  | pl, s :: ss, b, h => by
    simp only [blocksOf, List.mem_append] at h
    rcases h with h | h
    · simp only [recP, List.mem_map, List.mem_range] at h
      obtain ⟨i, hi, rfl⟩ := h
      exact ⟨_, _, _, _, rfl, by rw [partP_length]; omega⟩
    · exact blocksOf_mem h
theorem getD_app_l {a b : List (List UInt8)} {i : Nat} (h : i < a.length) : (a ++ b).getD i [] = a.getD i [] := by
  simp only [List.getD_eq_getElem?_getD]
  rw [List.getElem?_append_left h]
theorem getD_app_r {a b : List (List UInt8)} {i : Nat} : (a ++ b).getD (a.length + i) [] = b.getD i [] := by
  simp only [List.getD_eq_getElem?_getD]
  rw [List.getElem?_append_right (by omega), Nat.add_sub_cancel_left]
/-- Blocks that all stand are records that are laid. -/
theorem laid_blocks {l : List (List UInt8)} {E : Nat} (hE : E < 4294967296) : ∀ {p pl : Nat} {ss : List (List UInt8)}, (∀ s ∈ ss, s.length ≤ 4096) → p + usedP (with_ E ss) ≤ l.length → (∀ j, j < usedP (with_ E ss) → l.getD (p + j) [] = (blocksOf E pl ss).getD j []) → LaidAt l p pl (with_ E ss)
  | p, pl, [], _, _, _ => trivial
  | p, pl, s :: ss, hs, hf, h => by
    have hu : usedP (with_ E (s :: ss)) = needP s.length + usedP (with_ E ss) := rfl
    rw [hu] at hf h
    refine ⟨⟨hs s List.mem_cons_self, hE, by show p + needP s.length ≤ l.length; omega, fun i hi => ?_⟩, ?_⟩
    · have := h i (by have : i < needP s.length := hi; omega)
      rw [this, blocksOf, getD_app_l (by rw [recP_length]; exact hi)]
      exact recP_get hi
    · refine laid_blocks hE (fun x hx => hs x (List.mem_cons_of_mem _ hx)) (by show p + needP s.length + usedP (with_ E ss) ≤ l.length; omega) (fun j hj => ?_)
      have := h (needP s.length + j) (by omega)
      show l.getD (p + needP s.length + j) [] = _
      rw [Nat.add_assoc, this, blocksOf]
      have hr := recP_length E pl s
      rw [← hr, getD_app_r]
/-- How many records stand whole. -/
theorem front_laid {l : List (List UInt8)} {E : Nat} (hE : E < 4294967296) : ∀ {p pl : Nat} {ss : List (List UInt8)}, (∀ s ∈ ss, s.length ≤ 4096) → p + usedP (with_ E ss) ≤ l.length →
    ∃ m, m ≤ ss.length ∧ LaidAt l p pl (with_ E (ss.take m)) ∧ ∀ (hm : m < ss.length), ¬ ∀ i, i < needP ss[m].length → l.getD (p + usedP (with_ E (ss.take m)) + i) [] = blockP E (pl + m) i (needP ss[m].length) (partP ss[m] i)
  | p, pl, [], _, _ => ⟨0, Nat.le_refl _, trivial, fun hm => by simp at hm⟩
  | p, pl, s :: ss, hs, hf => by
    have hu : usedP (with_ E (s :: ss)) = needP s.length + usedP (with_ E ss) := rfl
    rw [hu] at hf
    by_cases h0 : ∀ i, i < needP s.length → l.getD (p + i) [] = blockP E pl i (needP s.length) (partP s i)
    · obtain ⟨m, hm, h1, h2⟩ := front_laid (l := l) hE (p := p + needP s.length) (pl := pl + 1) (ss := ss) (fun x hx => hs x (List.mem_cons_of_mem _ hx)) (by omega)
      refine ⟨m + 1, by simp; omega, ⟨⟨hs s List.mem_cons_self, hE, by show p + needP s.length ≤ l.length; omega, h0⟩, h1⟩, fun hm1 hn => ?_⟩
      have hm2 : m < ss.length := by simpa using hm1
      refine h2 hm2 (fun i hi => ?_)
      have := hn i hi
      simp only [List.getElem_cons_succ, List.take_succ_cons] at this
      have hu2 : usedP (with_ E (s :: ss.take m)) = needP s.length + usedP (with_ E (ss.take m)) := rfl
      rw [hu2] at this
      rw [show p + needP s.length + usedP (with_ E (ss.take m)) + i = p + (needP s.length + usedP (with_ E (ss.take m))) + i by omega, show pl + 1 + m = pl + (m + 1) by omega]
      exact this
    · refine ⟨0, Nat.zero_le _, trivial, fun _ hn => h0 (fun i hi => ?_)⟩
      have := hn i hi
      simpa [usedP, with_] using this
theorem blocksOf_at {E : Nat} : ∀ {pl : Nat} {ss : List (List UInt8)} {m : Nat} (hm : m < ss.length) {i : Nat}, i < needP ss[m].length → (blocksOf E pl ss).getD (usedP (with_ E (ss.take m)) + i) [] = blockP E (pl + m) i (needP ss[m].length) (partP ss[m] i)
  | pl, [], m, hm, i, hi => by simp at hm
  | pl, s :: ss, 0, hm, i, hi => by
    simp only [List.getElem_cons_zero] at hi ⊢
    simp only [List.take_zero, blocksOf]
    rw [show usedP (with_ E []) + i = i by simp [usedP, with_], getD_app_l (by rw [recP_length]; exact hi), recP_get hi]
    rfl
  | pl, s :: ss, m + 1, hm, i, hi => by
    simp only [List.getElem_cons_succ] at hi ⊢
    have := blocksOf_at (E := E) (pl := pl + 1) (ss := ss) (m := m) (by simpa using hm) hi
    have hu2 : usedP (with_ E ((s :: ss).take (m + 1))) = (recP E pl s).length + usedP (with_ E (ss.take m)) := by rw [recP_length]; rfl
    rw [hu2, Nat.add_assoc, blocksOf, getD_app_r, this]
    rw [show pl + 1 + m = pl + (m + 1) by omega]
theorem used_take (E : Nat) {ss : List (List UInt8)} {m : Nat} (hm : m < ss.length) : usedP (with_ E (ss.take m)) + needP ss[m].length ≤ usedP (with_ E ss) := by
  have e : ss = ss.take m ++ ss[m] :: ss.drop (m + 1) := by simp
  have := congrArg (fun l => usedP (with_ E l)) e
  simp only [with_append, usedP_append] at this
  rw [this]
  simp only [with_, List.map_cons, usedP]
  omega
end Go.Proofs.Ytdllgmhipenidaa
end

section
/- Segments behind a sync and behind a crash: P7.4. No program. -/
namespace Go.Proofs.Ytdllgmhipenidaa
set_option maxRecDepth 100000
set_option linter.unusedVariables false

theorem take_some {l : List (List UInt8)} {p pl e : Nat} {r : List UInt8 × Nat × Nat} (h : takeP l p pl e = some r) : p < l.length ∧ rightP (l.getD p []) = true ∧ 1 ≤ byteP (l.getD p []) 9 ∧ byteP (l.getD p []) 9 ≤ 92 ∧ e ≤ numP (l.getD p []) 0 ∧ p + byteP (l.getD p []) 9 ≤ l.length ∧
      (∀ i, i < byteP (l.getD p []) 9 → fitsP (l.getD (p + i) []) (numP (l.getD p []) 0) pl i (byteP (l.getD p []) 9) = true) := by
  unfold takeP at h
  split at h
  · assumption
  · cases h
theorem fits_right {b : List UInt8} {x pl i m : Nat} (h : fitsP b x pl i m = true) : rightP b = true ∧ numP b 0 = x := by
  unfold fitsP at h
  simp at h
  exact ⟨h.1.1, h.2.1⟩
/-- What is taken hangs on its own blocks alone. -/
theorem take_congr {l l' : List (List UInt8)} {p pl e : Nat} {r : List UInt8 × Nat × Nat} (hl : l'.length = l.length) (h : takeP l' p pl e = some r) (hc : ∀ i, i < byteP (l'.getD p []) 9 → l'.getD (p + i) [] = l.getD (p + i) []) : takeP l p pl e ≠ none := by
  obtain ⟨h1, h2, h3, h4, h5, h6, h7⟩ := take_some h
  have h0 := hc 0 (by omega)
  rw [Nat.add_zero] at h0
  unfold takeP
  rw [if_pos]
  · simp
  · rw [← h0, ← hl]
    exact ⟨h1, h2, h3, h4, h5, h6, fun i hi => by rw [← hc i hi]; exact h7 i hi⟩
theorem tear_byte {N O : List UInt8} {k : Nat} (hN : N.length = 64) (hO : O.length = 64) (hk : k ≤ 64) (i : Nat) : byteP (tear k N O) i = if i < k then byteP N i else byteP O i := by
  unfold byteP
  simp only [List.getD_eq_getElem?_getD]
  rw [tear_get hN hO hk]
  split <;> rfl
theorem tear_stamps {N O : List UInt8} {k E : Nat} (hN : N.length = 64) (hO : O.length = 64) (hk : k ≤ 64) (hE : E < 256) (n0 : numP N 0 = E) (n6 : numP N 60 = E) (o0 : numP O 0 < E) (o6 : numP O 60 < E) : numP (tear k N O) 0 ≤ E ∧ numP (tear k N O) 60 ≤ E := by
  unfold numP at *
  simp only [Nat.reduceAdd, Nat.zero_add, tear_byte hN hO hk] at *
  constructor
  · by_cases k0 : 0 < k <;> by_cases k1 : 1 < k <;> by_cases k2 : 2 < k <;> by_cases k3 : 3 < k <;> simp only [k0, k1, k2, k3, if_true, if_false] <;> omega
  · by_cases k0 : 60 < k <;> by_cases k1 : 61 < k <;> by_cases k2 : 62 < k <;> by_cases k3 : 63 < k <;> simp only [k0, k1, k2, k3, if_true, if_false] <;> omega
theorem stamp_aux : ∀ (l : List (List UInt8)) (t : Nat), t ≤ l.foldl (fun t b => max (max t (numP b 0)) (numP b 60)) t ∧ (∀ b ∈ l, numP b 0 ≤ l.foldl (fun t b => max (max t (numP b 0)) (numP b 60)) t ∧ numP b 60 ≤ l.foldl (fun t b => max (max t (numP b 0)) (numP b 60)) t) ∧ ∀ c, t ≤ c → (∀ b ∈ l, numP b 0 ≤ c ∧ numP b 60 ≤ c) → l.foldl (fun t b => max (max t (numP b 0)) (numP b 60)) t ≤ c
  | [], t => ⟨Nat.le_refl _, (fun b hb => by cases hb), fun c h _ => h⟩
  | x :: l, t => by
    obtain ⟨h1, h2, h3⟩ := stamp_aux l (max (max t (numP x 0)) (numP x 60))
    simp only [List.foldl_cons]
    refine ⟨by omega, fun b hb => ?_, fun c hc hb => h3 c ?_ (fun b h => hb b (List.mem_cons_of_mem _ h))⟩
    · rcases List.mem_cons.1 hb with rfl | hb
      · omega
      · exact h2 b hb
    · have := hb x List.mem_cons_self
      omega
theorem stampP_ge {l : List (List UInt8)} {b : List UInt8} (hb : b ∈ l) : numP b 0 ≤ stampP l ∧ numP b 60 ≤ stampP l := (stamp_aux l 0).2.1 b hb
theorem stampP_le {l : List (List UInt8)} {c : Nat} (h : ∀ b ∈ l, numP b 0 ≤ c ∧ numP b 60 ≤ c) : stampP l ≤ c := (stamp_aux l 0).2.2 c (Nat.zero_le _) h
theorem getD_mem {l : List (List UInt8)} {i : Nat} (h : i < l.length) : l.getD i [] ∈ l := by
  rw [List.getD_eq_getElem?_getD, List.getElem?_eq_getElem h]
  exact List.getElem_mem h
theorem mem_getD {l : List (List UInt8)} {b : List UInt8} (h : b ∈ l) : ∃ i, i < l.length ∧ l.getD i [] = b := by
  obtain ⟨i, hi, e⟩ := List.getElem_of_mem h
  exact ⟨i, hi, by rw [List.getD_eq_getElem?_getD, List.getElem?_eq_getElem hi, e]; rfl⟩
theorem last_stamp {l : List (List UInt8)} : ∀ {p pl e : Nat} {rs : Recs}, LaidAt l p pl rs → lastE e rs ≤ max e (stampP l)
  | p, pl, e, [], _ => by simp only [lastE]; omega
  | p, pl, e, r :: rs, h => by
    have ih := last_stamp (e := r.2) h.2
    have hn := needP_pos r.1.length
    have hb := h.1.2.2.2 0 (by omega)
    have hi : p + 0 < l.length := by have := h.1.2.2.1; omega
    have hs := (stampP_ge (getD_mem hi)).1
    rw [hb, blockP_num0 h.1.2.1] at hs
    simp only [lastE]
    omega
theorem len_used : ∀ (rs : Recs), rs.length ≤ usedP rs
  | [] => Nat.le_refl _
  | r :: rs => by have := len_used rs; have := needP_pos r.1.length; simp only [usedP, List.length_cons]; omega
theorem lastE_with {e E : Nat} : ∀ {ss : List (List UInt8)}, ss ≠ [] → lastE e (with_ E ss) = E
  | [], h => absurd rfl h
  | [s], _ => rfl
  | s :: t :: ss, _ => lastE_with (e := E) (ss := t :: ss) (by simp)
theorem up_with {E : Nat} : ∀ {e : Nat} {ss : List (List UInt8)}, e ≤ E → Up e (with_ E ss)
  | e, [], _ => trivial
  | e, s :: ss, h => ⟨h, up_with (Nat.le_refl E)⟩

/-- What is sure, on blocks that are sure, in an epoch. -/
structure Sv (L : List (List UInt8)) (old : Recs) (E : Nat) : Prop where
  b64 : ∀ b ∈ L, b.length = 64
  laid : LaidAt L 0 0 old
  up : Up 0 old
  le : lastE 0 old ≤ E
  low : ∀ i, i < L.length → numP (L.getD i []) 0 ≤ E ∧ numP (L.getD i []) 60 ≤ E
  far : ∀ i, usedP old ≤ i → i < L.length → numP (L.getD i []) 0 < E ∧ numP (L.getD i []) 60 < E
  stop : lastE 0 old < E → takeP L (usedP old) old.length (lastE 0 old) = none
theorem Sv.fit {L : List (List UInt8)} {old : Recs} {E : Nat} (h : Sv L old E) : usedP old ≤ L.length := by
  have := h.laid.fits (Nat.zero_le _)
  omega
/-- Stamps of a part's block. -/
theorem part_stamps {E pl k m : Nat} {p : List UInt8} (hp : p.length ≤ 45) (hE : E < 4294967296) : numP (blockP E pl k m p) 0 = E ∧ numP (blockP E pl k m p) 60 = E := ⟨blockP_num0 hE, blockP_num60 hp hE⟩
theorem Sv.sync {L : List (List UInt8)} {old : Recs} {E : Nat} (h : Sv L old E) (hE : E < 4294967296) {news : List (List UInt8)} (hs : ∀ s ∈ news, s.length ≤ 4096) (hf : usedP old + usedP (with_ E news) ≤ L.length) :
    Sv (layAll L (rowW (usedP old) (blocksOf E old.length news))) (old ++ with_ E news) E := by
  have hbl := blocksOf_length E old.length news
  have hget := lay_row (blocksOf E old.length news) (usedP old) L
  have hlen := layAll_length L (rowW (usedP old) (blocksOf E old.length news))
  have hnew : ∀ j, j < usedP (with_ E news) → ∃ pl k m p, (blocksOf E old.length news).getD j [] = blockP E pl k m p ∧ p.length ≤ 45 := fun j hj => blocksOf_mem (getD_mem (by rw [hbl]; exact hj))
  refine ⟨?_, ?_, ?_, ?_, ?_, ?_, ?_⟩
  · refine layAll_ok h.b64 (fun x hx => ?_)
    obtain ⟨pl, k, m, p, e, hp⟩ := blocksOf_mem (rowW_mem hx).2.2
    rw [e]
    exact blockP_length hp
  · refine LaidAt.append (h.laid.congr hlen (fun i _ hi => ?_)) ?_
    · rw [hget i (by have := h.fit; omega), if_neg (by omega)]
    · rw [Nat.zero_add, Nat.zero_add]
      refine laid_blocks hE hs (by rw [hlen]; exact hf) (fun j hj => ?_)
      rw [hget _ (by omega), if_pos (by omega), Nat.add_sub_cancel_left]
  · exact h.up.append (up_with h.le)
  · rw [lastE_append]
    by_cases hn : news = []
    · subst hn; exact h.le
    · rw [lastE_with hn]; exact Nat.le_refl _
  · intro i hi
    rw [hlen] at hi
    rw [hget i hi]
    split
    · obtain ⟨pl, k, m, p, e, hp⟩ := hnew (i - usedP old) (by omega)
      rw [e, (part_stamps hp hE).1, (part_stamps hp hE).2]
      exact ⟨Nat.le_refl _, Nat.le_refl _⟩
    · exact h.low i hi
  · intro i h1 hi
    rw [hlen] at hi
    rw [usedP_append] at h1
    rw [hget i hi, if_neg (by omega)]
    exact h.far i (by omega) hi
  · intro hlt
    rw [lastE_append] at hlt
    by_cases hn : news = []
    · subst hn
      have := h.stop hlt
      simpa [with_, blocksOf, rowW, layAll] using this
    · rw [lastE_with hn] at hlt
      omega
/-- Behind a crash a front of what was not sure stands, and nothing else. -/
theorem Sv.crash {L : List (List UInt8)} {old : Recs} {E : Nat} (h : Sv L old E) (hE : E < 256) {news : List (List UInt8)} (hs : ∀ s ∈ news, s.length ≤ 4096) (hf : usedP old + usedP (with_ E news) ≤ L.length) (hc : L.length < 4294967295) (ps : List UInt8) {L' : List (List UInt8)}
    (hL : crashL L (rowW (usedP old) (blocksOf E old.length news)) ps = L') :
    ∃ m, m ≤ news.length ∧ walkP L' (L'.length + 1) 0 0 0 = ((old ++ with_ E (news.take m)).map (·.1), usedP (old ++ with_ E (news.take m))) ∧ stampP L' ≤ E ∧ Sv L' (old ++ with_ E (news.take m)) (stampP L' + 1) := by
  have hE4 : E < 4294967296 := by omega
  have hbl := blocksOf_length E old.length news
  have hfit := h.fit
  have hlen : L'.length = L.length := by rw [← hL]; exact crashL_length _ _ _
  have hget : ∀ i, i < L.length → ∃ k, k ≤ 64 ∧ L'.getD i [] = if usedP old ≤ i ∧ i < usedP old + (blocksOf E old.length news).length then tear k ((blocksOf E old.length news).getD (i - usedP old) []) (L.getD i []) else L.getD i [] := fun i hi => by
    rw [← hL]
    exact crash_row _ _ _ _ i hi
  have hnew : ∀ j, j < usedP (with_ E news) → ∃ pl k m p, (blocksOf E old.length news).getD j [] = blockP E pl k m p ∧ p.length ≤ 45 := fun j hj => blocksOf_mem (getD_mem (by rw [hbl]; exact hj))
  have h64 : ∀ i, i < L.length → (L.getD i []).length = 64 := fun i hi => h.b64 _ (getD_mem hi)
  have hlow : ∀ i, i < L.length → numP (L'.getD i []) 0 ≤ E ∧ numP (L'.getD i []) 60 ≤ E := fun i hi => by
    obtain ⟨k, hk, e⟩ := hget i hi
    rw [e]
    split
    · obtain ⟨pl, k2, m, p, e2, hp⟩ := hnew (i - usedP old) (by omega)
      have := h.far i (by omega) hi
      rw [e2]
      exact tear_stamps (blockP_length hp) (h64 i hi) hk hE (part_stamps hp hE4).1 (part_stamps hp hE4).2 this.1 this.2
    · exact h.low i hi
  have hst : stampP L' ≤ E := stampP_le (fun b hb => by
    obtain ⟨i, hi, e⟩ := mem_getD hb
    rw [← e]
    exact hlow i (by omega))
  -- a right block behind what was sure is the new one, or the old one
  have hright : ∀ i, usedP old ≤ i → i < L.length → rightP (L'.getD i []) = true → (i < usedP old + usedP (with_ E news) ∧ L'.getD i [] = (blocksOf E old.length news).getD (i - usedP old) []) ∨ (L'.getD i [] = L.getD i [] ∧ numP (L.getD i []) 0 < E) := fun i h1 hi hr => by
    obtain ⟨k, hk, e⟩ := hget i hi
    have hfar := h.far i h1 hi
    by_cases hz : i < usedP old + usedP (with_ E news)
    · rw [if_pos ⟨h1, by rw [hbl]; exact hz⟩] at e
      obtain ⟨pl, k2, m, p, e2, hp⟩ := hnew (i - usedP old) (by omega)
      rw [e2] at e ⊢
      rw [e] at hr ⊢
      rcases torn_right (E := E) (blockP_length hp) (h64 i hi) hk hE (blockP_take4 _ _ _ _ _) (by omega) hfar.2 hr with h3 | h3
      · exact .inl ⟨hz, h3⟩
      · exact .inr ⟨h3, hfar.1⟩
    · rw [if_neg (by rw [hbl]; omega)] at e
      exact .inr ⟨e, hfar.1⟩
  obtain ⟨m, hm, hlaid, hnot⟩ := front_laid (l := L') hE4 (p := usedP old) (pl := old.length) (ss := news) hs (by rw [hlen]; exact hf)
  have hlaidAll : LaidAt L' 0 0 (old ++ with_ E (news.take m)) := by
    refine LaidAt.append (h.laid.congr hlen (fun i _ hi => ?_)) (by rw [Nat.zero_add, Nat.zero_add]; exact hlaid)
    obtain ⟨k, hk, e⟩ := hget i (by omega)
    rw [e, if_neg (by omega)]
  have hupAll : Up 0 (old ++ with_ E (news.take m)) := h.up.append (up_with h.le)
  have hstop : takeP L' (usedP (old ++ with_ E (news.take m))) (old ++ with_ E (news.take m)).length (lastE 0 (old ++ with_ E (news.take m))) = none := by
    cases ht : takeP L' (usedP (old ++ with_ E (news.take m))) (old ++ with_ E (news.take m)).length (lastE 0 (old ++ with_ E (news.take m))) with
    | none => rfl
    | some r =>
      exfalso
      obtain ⟨t1, t2, t3, t4, t5, t6, t7⟩ := take_some ht
      have hp : usedP (old ++ with_ E (news.take m)) = usedP old + usedP (with_ E (news.take m)) := usedP_append _ _
      rw [hp] at ht t1 t2 t3 t4 t5 t6 t7
      obtain ⟨p, hpe⟩ : ∃ p, usedP old + usedP (with_ E (news.take m)) = p := ⟨_, rfl⟩
      rw [hpe] at ht t1 t2 t3 t4 t5 t6 t7
      rcases hright p (by omega) (by omega) t2 with ⟨hz, hN⟩ | ⟨hO, hlt⟩
      · -- it begins at a new block: a record that does not stand whole
        have hmlt : m < news.length := by
          refine Classical.byContradiction fun hn => ?_
          have : news.take m = news := List.take_of_length_le (by omega)
          rw [this] at hpe
          omega
        have hut := used_take E hmlt
        have hb0 := blocksOf_at (E := E) (pl := old.length) hmlt (i := 0) (by have := needP_pos news[m].length; omega)
        rw [Nat.add_zero] at hb0
        have hpN : L'.getD p [] = blockP E (old.length + m) 0 (needP news[m].length) (partP news[m] 0) := by
          rw [hN, ← hb0]
          congr 1
          omega
        have hnl : needP news[m].length ≤ 92 := needP_le (hs _ (List.getElem_mem hmlt))
        have h9 : byteP (L'.getD p []) 9 = needP news[m].length := by rw [hpN]; exact blockP_9 (by omega)
        have hx : numP (L'.getD p []) 0 = E := by rw [hpN]; exact blockP_num0 hE4
        refine hnot hmlt (fun i hi => ?_)
        have hfi := fits_right (t7 i (by rw [h9]; exact hi))
        rw [hpe]
        rcases hright (p + i) (by omega) (by omega) hfi.1 with ⟨hz2, hN2⟩ | ⟨hO2, hlt2⟩
        · have hbi := blocksOf_at (E := E) (pl := old.length) hmlt hi
          rw [hN2, ← hbi]
          congr 1
          omega
        · exfalso
          have := hfi.2
          rw [hO2, hx] at this
          omega
      · -- it begins at an old block: then all of it is old
        have hxlt : numP (L'.getD p []) 0 < E := by rw [hO]; exact hlt
        have hle2 : lastE 0 (old ++ with_ E (news.take m)) < E := by omega
        have hm0 : news.take m = [] := by
          refine Classical.byContradiction fun hn => ?_
          rw [lastE_append, lastE_with hn] at hle2
          omega
        rw [hm0] at ht hpe hle2
        have hpu : p = usedP old := by rw [← hpe]; simp [with_, usedP]
        have hold : old ++ with_ E [] = old := by simp [with_]
        rw [hold] at ht hle2
        refine take_congr (l := L) hlen ht (fun i hi => ?_) (by rw [hpu]; exact h.stop hle2)
        have hfi := fits_right (t7 i hi)
        rcases hright (p + i) (by omega) (by omega) hfi.1 with ⟨hz2, hN2⟩ | ⟨hO2, -⟩
        · exfalso
          obtain ⟨pl, k2, m2, q, e2, hq⟩ := hnew (p + i - usedP old) (by omega)
          have := hfi.2
          rw [hN2, e2, (part_stamps hq hE4).1] at this
          omega
        · exact hO2
  have hrl := len_used (old ++ with_ E (news.take m))
  have hru := hlaidAll.fits (Nat.zero_le _)
  rw [Nat.zero_add] at hru
  refine ⟨m, hm, ?_, hst, ⟨?_, hlaidAll, hupAll, ?_, ?_, ?_, fun _ => hstop⟩⟩
  · have := walk_laid (f := L'.length + 1) hlaidAll hupAll (by omega) (by omega) (by rw [Nat.zero_add, Nat.zero_add]; exact hstop)
    rw [Nat.zero_add] at this
    exact this
  · intro b hb
    obtain ⟨i, hi, e⟩ := mem_getD hb
    rw [← e]
    obtain ⟨k, hk, e2⟩ := hget i (by omega)
    rw [e2]
    split
    · obtain ⟨pl, k2, m2, p, e3, hp⟩ := hnew (i - usedP old) (by omega)
      rw [e3]
      exact tear_length (blockP_length hp) (h64 i (by omega)) hk
    · exact h64 i (by omega)
  · have := last_stamp (e := 0) hlaidAll
    omega
  · intro i hi
    have := stampP_ge (getD_mem hi)
    omega
  · intro i _ hi
    have := stampP_ge (getD_mem hi)
    omega
/-- A disk of noughts. -/
theorem zeros_take (n p pl e : Nat) : takeP (List.replicate n zeros64) p pl e = none := by
  cases h : takeP (List.replicate n zeros64) p pl e with
  | none => rfl
  | some r =>
    exfalso
    obtain ⟨h1, -, h3, -⟩ := take_some h
    have : (List.replicate n zeros64).getD p [] = zeros64 := by
      rw [List.eq_of_mem_replicate (getD_mem h1)]
    rw [this] at h3
    simp [byteP, zeros64] at h3
theorem zeros_stamp (n : Nat) : stampP (List.replicate n zeros64) = 0 := by
  have := stampP_le (l := List.replicate n zeros64) (c := 0) (fun b hb => by
    rw [List.eq_of_mem_replicate hb]
    simp [numP, byteP, zeros64])
  omega
theorem Sv.new (n : Nat) : walkP (List.replicate n zeros64) (n + 1) 0 0 0 = ([], 0) ∧ Sv (List.replicate n zeros64) [] 1 := by
  have hz : ∀ b ∈ List.replicate n zeros64, numP b 0 = 0 ∧ numP b 60 = 0 := fun b hb => by
    rw [List.eq_of_mem_replicate hb]
    simp [numP, byteP, zeros64]
  refine ⟨walkP_none (zeros_take _ _ _ _), ⟨fun b hb => ?_, trivial, trivial, Nat.zero_le _, fun i hi => ?_, fun i _ hi => ?_, fun _ => zeros_take _ _ _ _⟩⟩
  · rw [List.eq_of_mem_replicate hb]; simp [zeros64]
  · have := hz _ (getD_mem hi); omega
  · have := hz _ (getD_mem hi); omega
end Go.Proofs.Ytdllgmhipenidaa
end
