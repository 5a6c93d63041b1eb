/- Segments as the document has them: plain lists. No program. -/
import Derived.Test.YtgebcpfgihcoiaaCrcM
import Derived.Test.YtgebcpfgihcoiaaDisk0
namespace Go.Proofs.Ytgebcpfgihcoiaa
set_option maxRecDepth 100000
set_option linter.unusedVariables false

/-- How many parts a record of so many bytes has. -/
def needP (n : Nat) : Nat := if n ≤ 45 then 1 else (n + 44) / 45
def partP (s : List UInt8) (k : Nat) : List UInt8 := (s.drop (45 * k)).take 45
def headP (e pl k m q : Nat) : List UInt8 := fourOf e ++ fourOf (pl + 1) ++ [UInt8.ofNat k, UInt8.ofNat m, UInt8.ofNat q]
def bodyP (e pl k m : Nat) (p : List UInt8) : List UInt8 := headP e pl k m p.length ++ (p ++ List.replicate (45 - p.length) 0)
/-- A part's block. -/
def blockP (e pl k m : Nat) (p : List UInt8) : List UInt8 := sealedOf (bodyP e pl k m p) ++ fourOf e
def byteP (b : List UInt8) (i : Nat) : Nat := (b.getD i 0).toNat
def numP (b : List UInt8) (i : Nat) : Nat := byteP b i * 16777216 + byteP b (i + 1) * 65536 + byteP b (i + 2) * 256 + byteP b (i + 3)
/-- Its sum is right, its stamps are one. -/
def rightP (b : List UInt8) : Bool := rightOf (b.take 60) && decide (b.take 4 = b.drop 60)
/-- It is this part of a record. -/
def fitsP (b : List UInt8) (x pl i m : Nat) : Bool :=
  rightP b && decide (byteP b 10 ≤ 45 ∧ (i + 1 < m → 45 ≤ byteP b 10) ∧ (0 < i → byteP b 10 ≠ 0)) && decide (numP b 0 = x ∧ numP b 4 = pl + 1 ∧ byteP b 8 = i ∧ byteP b 9 = m)
def dataP (b : List UInt8) : List UInt8 := (b.drop 11).take (byteP b 10)
/-- The first so many parts of what begins at a block. -/
def joinP (l : List (List UInt8)) (p i : Nat) : List UInt8 := ((List.range i).map fun k => dataP (l.getD (p + k) [])).flatten
/-- The record that begins at a block, how many parts it has, its epoch. -/
def takeP (l : List (List UInt8)) (p pl e : Nat) : Option (List UInt8 × Nat × Nat) :=
  if p < l.length ∧ rightP (l.getD p []) = true ∧ 1 ≤ byteP (l.getD p []) 9 ∧ byteP (l.getD p []) 9 ≤ 92 ∧ e ≤ numP (l.getD p []) 0 ∧ p + byteP (l.getD p []) 9 ≤ l.length ∧
      (∀ i, i < byteP (l.getD p []) 9 → fitsP (l.getD (p + i) []) (numP (l.getD p []) 0) pl i (byteP (l.getD p []) 9) = true) then
    some (joinP l p (byteP (l.getD p []) 9), byteP (l.getD p []) 9, numP (l.getD p []) 0)
  else none
/-- All records from a block on; the block behind them. -/
def walkP (l : List (List UInt8)) : Nat → Nat → Nat → Nat → List (List UInt8) × Nat
  | 0, p, _, _ => ([], p)
  | f + 1, p, pl, e => match takeP l p pl e with
    | none => ([], p)
    | some (b, m, x) => (b :: (walkP l f (p + m) (pl + 1) x).1, (walkP l f (p + m) (pl + 1) x).2)
/-- The greatest stamp. -/
def stampP (l : List (List UInt8)) : Nat := l.foldl (fun t b => max (max t (numP b 0)) (numP b 60)) 0
/-- A segment, but for its disk. -/
structure PSeg where
  start : Nat
  n : Nat
  epoch : Nat
  L : List (List UInt8)
  used : Nat
  sure : Nat
  gone : Nat
  err : Int
def segOpen (l : List (List UInt8)) (start : Nat) : PSeg := ⟨start, l.length, stampP l + 1, (walkP l (l.length + 1) 0 0 0).1, (walkP l (l.length + 1) 0 0 0).2, (walkP l (l.length + 1) 0 0 0).1.length, 0, 0⟩
def recP (e pl : Nat) (s : List UInt8) : List (List UInt8) := (List.range (needP s.length)).map fun i => blockP e pl i (needP s.length) (partP s i)
/-- Blocks written one behind the other, to the first error. -/
def putsP : PD → Nat → List (List UInt8) → PD × Int
  | d, _, [] => (d, 0)
  | d, p, b :: bs => if (d.write (p : Int) b).2 ≠ 0 then d.write (p : Int) b else putsP (d.write (p : Int) b).1 (p + 1) bs
def PSeg.append (s : PSeg) (d : PD) (b : List UInt8) : PD × PSeg × Int × Int :=
  if 4096 < b.length then (d, s, 0, 13) else if s.err ≠ 0 then (d, s, 0, s.err) else if s.n - s.used < needP b.length then (d, s, 0, 21) else
  if (putsP d (s.start + s.used) (recP s.epoch s.L.length b)).2 ≠ 0 then
    ((putsP d (s.start + s.used) (recP s.epoch s.L.length b)).1, { s with err := (putsP d (s.start + s.used) (recP s.epoch s.L.length b)).2 }, 0, (putsP d (s.start + s.used) (recP s.epoch s.L.length b)).2)
  else ((putsP d (s.start + s.used) (recP s.epoch s.L.length b)).1, { s with L := s.L ++ [b], used := s.used + needP b.length }, (s.L.length : Int), 0)
def PSeg.sync (s : PSeg) (d : PD) : PD × PSeg × Int :=
  if s.err ≠ 0 then (d, s, s.err) else if d.sync.2 ≠ 0 then (d.sync.1, { s with err := d.sync.2 }, d.sync.2) else (d.sync.1, { s with sure := s.L.length }, 0)
def PSeg.read (s : PSeg) (k : Int) : List UInt8 × Int := if k < 0 ∨ (s.L.length : Int) ≤ k then ([], 15) else if k < (s.gone : Int) then ([], 35) else (s.L.getD k.toNat [], 0)
def PSeg.trim (s : PSeg) (k : Int) : PSeg := { s with gone := max s.gone (min k (s.sure : Int)).toNat }

theorem needP_pos (n : Nat) : 1 ≤ needP n := by unfold needP; split <;> omega
theorem needP_le {n : Nat} (h : n ≤ 4096) : needP n ≤ 92 := by unfold needP; split <;> omega
theorem needP_last (n i : Nat) (h : i + 1 < needP n) : 45 * (i + 1) < n := by unfold needP at h; split at h <;> omega
theorem needP_some (n i : Nat) (h : i < needP n) (h0 : 0 < i) : 45 * i < n := by unfold needP at h; split at h <;> omega
theorem needP_end (n : Nat) : n ≤ 45 * needP n := by unfold needP; split <;> omega
theorem partP_length (s : List UInt8) (k : Nat) : (partP s k).length = min 45 (s.length - 45 * k) := by simp [partP]
theorem fourOf_length (x : Nat) : (fourOf x).length = 4 := rfl
theorem bodyP_length {e pl k m : Nat} {p : List UInt8} (h : p.length ≤ 45) : (bodyP e pl k m p).length = 56 := by simp [bodyP, headP, fourOf]; omega
theorem blockP_length {e pl k m : Nat} {p : List UInt8} (h : p.length ≤ 45) : (blockP e pl k m p).length = 64 := by
  simp only [blockP, List.length_append, sealedOf_length, bodyP_length h, fourOf_length]
theorem blockP_take4 (e pl k m : Nat) (p : List UInt8) : (blockP e pl k m p).take 4 = fourOf e := by simp [blockP, sealedOf, bodyP, headP, fourOf]
theorem blockP_take60 {e pl k m : Nat} {p : List UInt8} (h : p.length ≤ 45) : (blockP e pl k m p).take 60 = sealedOf (bodyP e pl k m p) := by
  unfold blockP
  rw [List.take_left' (by rw [sealedOf_length, bodyP_length h])]
theorem blockP_drop60 {e pl k m : Nat} {p : List UInt8} (h : p.length ≤ 45) : (blockP e pl k m p).drop 60 = fourOf e := by
  unfold blockP
  rw [List.drop_left' (by rw [sealedOf_length, bodyP_length h])]
theorem blockP_right {e pl k m : Nat} {p : List UInt8} (h : p.length ≤ 45) : rightP (blockP e pl k m p) = true := by
  unfold rightP
  rw [blockP_take60 h, blockP_take4, blockP_drop60 h, rightOf_sealed]
  simp
theorem fourOf_num {e : Nat} (h : e < 4294967296) : (UInt8.ofNat (e / 16777216)).toNat * 16777216 + (UInt8.ofNat (e / 65536)).toNat * 65536 + (UInt8.ofNat (e / 256)).toNat * 256 + (UInt8.ofNat e).toNat = e := by
  simp only [UInt8.toNat_ofNat']
  omega
theorem blockP_num0 {e pl k m : Nat} {p : List UInt8} (h : e < 4294967296) : numP (blockP e pl k m p) 0 = e := by
  simp [numP, byteP, blockP, sealedOf, bodyP, headP, fourOf]
  omega
theorem blockP_num4 {e pl k m : Nat} {p : List UInt8} (h : pl + 1 < 4294967296) : numP (blockP e pl k m p) 4 = pl + 1 := by
  simp [numP, byteP, blockP, sealedOf, bodyP, headP, fourOf]
  omega
theorem blockP_8 {e pl k m : Nat} {p : List UInt8} (h : k < 256) : byteP (blockP e pl k m p) 8 = k := by
  simp [byteP, blockP, sealedOf, bodyP, headP, fourOf]; omega
theorem blockP_9 {e pl k m : Nat} {p : List UInt8} (h : m < 256) : byteP (blockP e pl k m p) 9 = m := by
  simp [byteP, blockP, sealedOf, bodyP, headP, fourOf]; omega
theorem blockP_10 {e pl k m : Nat} {p : List UInt8} (h : p.length ≤ 45) : byteP (blockP e pl k m p) 10 = p.length := by
  simp [byteP, blockP, sealedOf, bodyP, headP, fourOf]; omega
theorem blockP_data {e pl k m : Nat} {p : List UInt8} (h : p.length ≤ 45) : dataP (blockP e pl k m p) = p := by
  unfold dataP
  rw [blockP_10 h]
  simp [blockP, sealedOf, bodyP, headP, fourOf]
theorem blockP_num60 {e pl k m : Nat} {p : List UInt8} (hp : p.length ≤ 45) (h : e < 4294967296) : numP (blockP e pl k m p) 60 = e := by
  have hd := blockP_drop60 (e := e) (pl := pl) (k := k) (m := m) hp
  have key : ∀ i, i < 4 → (blockP e pl k m p).getD (60 + i) 0 = (fourOf e).getD i 0 := fun i hi => by
    rw [← hd]
    simp [List.getD_eq_getElem?_getD, List.getElem?_drop]
  have k0 := key 0 (by omega)
  have k1 := key 1 (by omega)
  have k2 := key 2 (by omega)
  have k3 := key 3 (by omega)
  unfold numP byteP
  simp only [Nat.reduceAdd, Nat.add_zero] at k0 k1 k2 k3 ⊢
  rw [k0, k1, k2, k3]
  have hf := fourOf_num h
  simp only [fourOf, List.getD_cons_zero, List.getD_cons_succ]
  exact hf
theorem blockP_fits {e pl i : Nat} {s : List UInt8} (he : e < 4294967296) (hpl : pl + 1 < 4294967296) (hs : s.length ≤ 4096) (hi : i < needP s.length) :
    fitsP (blockP e pl i (needP s.length) (partP s i)) e pl i (needP s.length) = true := by
  have hm := needP_le hs
  have hp : (partP s i).length ≤ 45 := by rw [partP_length]; omega
  have h1 := needP_last s.length i
  have h2 := needP_some s.length i hi
  unfold fitsP
  rw [blockP_right hp, blockP_num0 he, blockP_num4 hpl, blockP_8 (by omega), blockP_9 (by omega), blockP_10 hp, partP_length]
  simp
  omega
theorem parts_join (s : List UInt8) : ∀ k, ((List.range k).map fun i => partP s i).flatten = s.take (45 * k)
  | 0 => by simp
  | k + 1 => by
    rw [List.range_succ, List.map_append, List.flatten_append, parts_join s k]
    simp only [List.map_cons, List.map_nil, List.flatten_cons, List.flatten_nil, List.append_nil, partP]
    rw [show 45 * (k + 1) = 45 * k + 45 by omega, List.take_add]
theorem recP_length (e pl : Nat) (s : List UInt8) : (recP e pl s).length = needP s.length := by simp [recP]
/-- A record that is laid is taken. -/
theorem take_laid {l : List (List UInt8)} {p pl e0 e : Nat} {s : List UInt8} (he : e < 4294967296) (hpl : pl + 1 < 4294967296) (hs : s.length ≤ 4096) (h0 : e0 ≤ e) (hfit : p + needP s.length ≤ l.length)
    (h : ∀ i, i < needP s.length → l.getD (p + i) [] = blockP e pl i (needP s.length) (partP s i)) : takeP l p pl e0 = some (s, needP s.length, e) := by
  have hm := needP_le hs
  have hm1 := needP_pos s.length
  have hb := h 0 (by omega)
  rw [Nat.add_zero] at hb
  have hp : (partP s 0).length ≤ 45 := by rw [partP_length]; omega
  have hj : joinP l p (needP s.length) = s := by
    unfold joinP
    rw [show ((List.range (needP s.length)).map fun k => dataP (l.getD (p + k) [])) = (List.range (needP s.length)).map fun i => partP s i from List.map_congr_left fun i hi => by
      rw [h i (List.mem_range.1 hi), blockP_data (by rw [partP_length]; omega)], parts_join, List.take_of_length_le (needP_end _)]
  unfold takeP
  rw [hb, blockP_right hp, blockP_9 (by omega), blockP_num0 he, hj, if_pos]
  refine ⟨by omega, rfl, hm1, hm, h0, hfit, fun i hi => ?_⟩
  rw [h i hi]
  exact blockP_fits he hpl hs hi
end Go.Proofs.Ytgebcpfgihcoiaa
