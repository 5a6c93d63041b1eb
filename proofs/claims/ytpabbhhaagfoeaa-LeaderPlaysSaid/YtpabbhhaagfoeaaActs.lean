/- A slice of structs that comes in (a script): opened, element by element and field by field, where the fields are ints, bools, bytes and rows of numbers. No program. -/
import Derived.Test.YtpabbhhaagfoeaaInRows
import Derived.Lib.SmallJoins
namespace Go.Proofs.Ytpabbhhaagfoeaa
set_option maxRecDepth 100000
open Go.ChangeShapes Go.WideShapes Go.ChangeAt Go.RowKit
set_option linter.unusedVariables false

/-- A field's kind. -/
inductive Fk where
  | int (k : IntKind)
  | bool
  | bytes
  | u64s
/-- A field's value: of a slice where it lies, its room, what it reads as. -/
inductive Fv where
  | int (k : IntKind) (z : Int)
  | bool (b : Bool)
  | bytes (A : Option Addr) (c : Nat) (xs : List UInt8)
  | u64s (A : Option Addr) (c : Nat) (xs : List Nat)
instance : Inhabited Fv := ⟨.bool false⟩
def Fv.val : Fv → Value
  | .int k z => .int k z
  | .bool b => .bool b
  | .bytes A c xs => .slice A xs.length c
  | .u64s A c xs => .slice A xs.length c
def Fv.kind : Fv → Fk
  | .int k _ => .int k
  | .bool _ => .bool
  | .bytes _ _ _ => .bytes
  | .u64s _ _ _ => .u64s
def Fv.good (W : World) : Fv → Prop
  | .int k z => (Lit.int k z).wf = true
  | .bool _ => True
  | .bytes A c xs => Sl W A c (bts xs)
  | .u64s A c xs => Sl W A c (nums xs) ∧ ∀ n ∈ xs, n < 18446744073709551616
theorem Fv.good.mods {W W' : World} {v : Fv} (h : v.good W) (hm : Mods Nil W W') : v.good W' := by
  cases v with
  | int k z => exact h
  | bool b => exact h
  | bytes A c xs => exact Sl.mods h hm (fun _ _ h => h)
  | u64s A c xs => exact ⟨Sl.mods h.1 hm (fun _ _ h => h), h.2⟩
/-- A type is of a kind. -/
def Fk.fits (P : Program) (t : TypeId) : Fk → Prop
  | .int k => P.underlying t = some (.int k)
  | .bool => P.underlying t = some .bool
  | .bytes => ∃ b, P.underlying t = some (.slice b) ∧ P.underlying b = some (.int .u8) ∧ P.cellsOf b = 1
  | .u64s => ∃ b, P.underlying t = some (.slice b) ∧ P.underlying b = some (.int .u64) ∧ P.cellsOf b = 1
theorem open_fv {H : Type} {enc : TypeId × Value → H} {P : Program} {W : World} {n : Nat} {t : TypeId} {c : Value} {y : DataW H × List MemPlace} {k : Fk} (hk : k.fits P t) (h : DataW.trod enc P W 0 (fun _ => true) true n t [c] = some y) :
    ∃ v : Fv, v.kind = k ∧ c = v.val ∧ v.good W := by
  cases k with
  | int k =>
    obtain ⟨z, e, -, wf⟩ := DataW.trod_int hk h
    exact ⟨.int k z, rfl, by simpa [Fv.val] using e, wf⟩
  | bool =>
    obtain ⟨b, e, -⟩ := DataW.trod_bool hk h
    exact ⟨.bool b, rfl, by simpa [Fv.val] using e, trivial⟩
  | bytes =>
    obtain ⟨b, h1, h2, h3⟩ := hk
    obtain ⟨A, l, cp, e⟩ := Joins.slice_form h1 h
    obtain rfl : c = .slice A l cp := by simpa using e
    obtain ⟨xs, hn, hs⟩ := open_bytes_sl (enc := enc) h1 h2 h3 (W := W) (a0 := A) (len := l) (cap := cp) (d0 := y.1) (p := y.2) ⟨n, by simpa [Value.cells] using h⟩
    exact ⟨.bytes A cp xs, rfl, by simp [Fv.val, hn], hs⟩
  | u64s =>
    obtain ⟨b, h1, h2, h3⟩ := hk
    obtain ⟨A, l, cp, e⟩ := Joins.slice_form h1 h
    obtain rfl : c = .slice A l cp := by simpa using e
    obtain ⟨xs, hn, hs, hx⟩ := open_u64s_sl (enc := enc) h1 h2 h3 (W := W) (a0 := A) (len := l) (cap := cp) (d0 := y.1) (p := y.2) ⟨n, by simpa [Value.cells] using h⟩
    exact ⟨.u64s A cp xs, rfl, by simp [Fv.val, hn], hs, hx⟩

/-- The fields of a struct are of these kinds, one cell each. -/
def fitsAll (P : Program) : Nat → List Field → List Fk → Prop
  | _, [], [] => True
  | i, f :: fs, k :: ks => k.fits P f.type ∧ f.offset = i ∧ P.cellsOf f.type = 1 ∧ fitsAll P (i + 1) fs ks
  | _, _, _ => False
theorem fitsAll.at_ {P : Program} : ∀ {i : Nat} {fs : List Field} {ks : List Fk}, fitsAll P i fs ks → fs.length = ks.length ∧ ∀ j f k, fs[j]? = some f → ks[j]? = some k → k.fits P f.type ∧ f.offset = i + j ∧ P.cellsOf f.type = 1
  | i, [], [], _ => ⟨rfl, fun j f k h => by simp at h⟩
  | i, f :: fs, k :: ks, h => by
    obtain ⟨h1, h2, h3, h4⟩ := h
    obtain ⟨hl, ha⟩ := fitsAll.at_ h4
    refine ⟨by simp [hl], fun j g q hg hq => ?_⟩
    cases j with
    | zero => simp at hg hq; subst hg; subst hq; exact ⟨h1, h2, h3⟩
    | succ j =>
      obtain ⟨a, b, c⟩ := ha j g q (by simpa using hg) (by simpa using hq)
      exact ⟨a, by omega, c⟩

/-- A script in memory. -/
structure Acts (W : World) (a0 : Option Addr) (len cap : Nat) (ks : List Fk) (l : List (List Fv)) : Prop where
  size : l.length = len
  le : len ≤ cap
  most : cap ≤ maxLen
  cells : 0 < len → ∃ b off, a0 = some ⟨b, off, none⟩ ∧ b < W.heap.size ∧ ∀ i x, l[i]? = some x → ∀ j v, x[j]? = some v → W.cell? ⟨b, off + (i * ks.length + j), none⟩ = some v.val
  good : ∀ x ∈ l, x.map Fv.kind = ks ∧ ∀ v ∈ x, v.good W
theorem Acts.mods {W W' : World} {a0 : Option Addr} {len cap : Nat} {ks : List Fk} {l : List (List Fv)} (h : Acts W a0 len cap ks l) (hm : Mods Nil W W') : Acts W' a0 len cap ks l := by
  refine ⟨h.size, h.le, h.most, fun h0 => ?_, fun x hx => ⟨(h.good x hx).1, fun v hv => ((h.good x hx).2 v hv).mods hm⟩⟩
  obtain ⟨b, off, e, hlt, hc⟩ := h.cells h0
  exact ⟨b, off, e, Nat.lt_of_lt_of_le hlt hm.size, fun i x hx j v hv => (World.cell?_of_block (hm.block b hlt (fun h => h))).trans (hc i x hx j v hv)⟩

theorem open_acts {H : Type} {enc : TypeId × Value → H} {P : Program} {t e : TypeId} {fs : Array Field} {ks : List Fk} (ht : P.underlying t = some (.slice e)) (he : P.underlying e = some (.struct fs)) (hf : fitsAll P 0 fs.toList ks) (hc : P.cellsOf e = ks.length) (hpos : 0 < ks.length) {W : World} {a0 : Option Addr} {len cap : Nat} {d0 : DataW H} {p : List MemPlace}
    (h0 : DataW.Trod enc P W 0 (fun _ => true) true t (.slice a0 len cap) d0 p) : ∃ l : List (List Fv), Acts W a0 len cap ks l := by
  obtain ⟨hfl, hfa⟩ := hf.at_
  obtain ⟨fuel, hfu⟩ := h0
  rcases Go.Deep.open_slice ht hfu with ⟨hcs, hx⟩ | ⟨a, ln, cp, m, n, D, Pl, hcs, _, hl, hm, hmm, _, hV⟩
  · simp [Value.cells] at hcs
    obtain ⟨rfl, rfl, rfl⟩ := hcs
    exact ⟨[], rfl, Nat.le_refl _, Nat.zero_le _, fun h => by omega, fun _ h => by cases h⟩
  · simp [Value.cells] at hcs
    obtain ⟨rfl, rfl, rfl⟩ := hcs
    simp only [if_true] at hmm
    subst hmm
    obtain ⟨R, hR⟩ := Go.Deep.choose_lt (α := List Fv) (n := m) (p := fun i x => x.map Fv.kind = ks ∧ (∀ v ∈ x, v.good W) ∧ ∀ j v, x[j]? = some v → W.cell? (a.add (i * ks.length + j)) = some v.val) (fun i hi => by
      obtain ⟨cs', h1, h2⟩ := hV i hi
      rw [hc] at h1
      obtain ⟨_, hlen, hcell⟩ := World.cells?_some h1
      obtain ⟨xs, k, hk, hxy, _, hxl, hfd⟩ := DataW.trod_struct he h2
      obtain ⟨Q, hQ⟩ := Go.Deep.choose_lt (α := Fv) (n := ks.length) (p := fun j v => ks[j]? = some v.kind ∧ cs'[j]? = some v.val ∧ v.good W) (fun j hj => by
        have hjf : j < fs.size := by have : fs.toList.length = ks.length := hfl; simp at this; omega
        obtain ⟨g1, g2, g3⟩ := hfa j fs[j] ks[j] (by simp [hjf]) (by simp [hj])
        have hfj := hfd j fs[j] (by simp [hjf])
        rw [g3, g2, Nat.zero_add] at hfj
        have hjc : j < cs'.length := by omega
        have e1 : List.take 1 (List.drop j cs') = [cs'[j]] := by rw [List.drop_eq_getElem_cons hjc]; rfl
        rw [e1, List.getElem?_eq_getElem (by omega)] at hfj
        obtain ⟨v, v1, v2, v3⟩ := open_fv g1 hfj
        exact ⟨v, by rw [List.getElem?_eq_getElem hj, v1], by rw [List.getElem?_eq_getElem hjc, v2], v3⟩)
      refine ⟨(List.range ks.length).map Q, ?_, ?_, ?_⟩
      · apply List.ext_getElem?
        intro j
        by_cases hj : j < ks.length
        · rw [(hQ j hj).1]; simp [hj]
        · simp [hj]
      · intro v hv
        simp at hv
        obtain ⟨j, hj, rfl⟩ := hv
        exact (hQ j hj).2.2
      · intro j v hv
        by_cases hj : j < ks.length
        · simp [hj] at hv
          subst hv
          have := hcell j (by omega)
          rw [Go.Deep.add_add, (hQ j hj).2.1] at this
          exact this
        · simp [hj] at hv)
    refine ⟨(List.range len).map R, by simp, hl, hm, fun h0 => ?_, ?_⟩
    · obtain ⟨blk, off, spot⟩ := a
      obtain ⟨r1, r2, r3⟩ := hR 0 (by omega)
      have hne : 0 < (R 0).length := by have := congrArg List.length r1; simp at this; omega
      have hc0 := r3 0 _ (List.getElem?_eq_getElem hne)
      have hspot : spot = none := by simpa [Addr.add] using World.cell?_spot hc0
      subst hspot
      refine ⟨blk, off, rfl, ?_, fun i x hx j v hv => ?_⟩
      · have := World.block_lt_of_cell? W _ hc0
        simpa [Addr.add] using this
      · have hi : i < len := by
          have := (List.getElem?_eq_some_iff.1 hx).1
          simpa using this
        simp [hi] at hx
        subst hx
        have := (hR i (by omega)).2.2 j v hv
        rw [Addr.add_lit] at this
        exact this
    · intro x hx
      simp at hx
      obtain ⟨i, hi, rfl⟩ := hx
      exact ⟨(hR i (by omega)).1, (hR i (by omega)).2.1⟩
end Go.Proofs.Ytpabbhhaagfoeaa
