/- A [][]byte that comes in: its rows; opened. -/
import Derived.Test.YtpabbhhaagfoeaaBaseM
import Derived.Test.YtpabbhhaagfoeaaOpen
import Derived.Deep.Slices
namespace Go.Proofs.Ytpabbhhaagfoeaa
set_option maxRecDepth 100000
open Go.ChangeShapes Go.WideShapes Go.ChangeAt Go.RowKit

/-- A row that is handed in: where it lies, its room, its bytes. -/
structure Row where
  A : Option Addr
  c : Nat
  xs : List UInt8
def Row.val (r : Row) : Value := .slice r.A r.xs.length r.c
def Row.ok (w : World) (r : Row) : Prop := Sl w r.A r.c (bts r.xs)
theorem Row.ok.mods {w w' : World} {r : Row} (h : Row.ok w r) (hm : Mods Nil w w') : Row.ok w' r := Sl.mods h hm (fun _ _ h => h)
def flat (l : List Row) : List UInt8 := l.flatMap (·.xs)
theorem flat_snoc (l : List Row) (r : Row) : flat (l ++ [r]) = flat l ++ r.xs := by simp [flat]

instance : Inhabited Row := ⟨⟨none, 0, []⟩⟩
theorem open_rows_sl {H : Type} {enc : TypeId × Value → H} {P : Program} {t e b : TypeId} (ht : P.underlying t = some (.slice e)) (he : P.underlying e = some (.slice b)) (hb : P.underlying b = some (.int .u8)) (hc1 : P.cellsOf e = 1) (hc2 : P.cellsOf b = 1) {W : World} {a0 : Option Addr} {len cap : Nat} {d0 : DataW H} {p : List MemPlace}
    (h0 : DataW.Trod enc P W 0 (fun _ => true) true t (.slice a0 len cap) d0 p) :
    ∃ l : List Row, l.length = len ∧ Sl W a0 cap (l.map Row.val) ∧ ∀ r ∈ l, r.ok W := by
  obtain ⟨fuel, hf⟩ := h0
  rcases Go.Deep.open_slice1 ht hc1 hf with ⟨hcs, hx⟩ | ⟨a, ln, cp, m, n, V, D, Pl, hcs, _, hl, hm, hmm, _, hV⟩
  · simp [Value.cells] at hcs
    obtain ⟨rfl, rfl, rfl⟩ := hcs
    exact ⟨[], rfl, Sl.none_ _, fun _ h => by cases h⟩
  · simp [Value.cells] at hcs
    obtain ⟨rfl, rfl, rfl⟩ := hcs
    simp only [if_true] at hmm
    subst hmm
    obtain ⟨R, hR⟩ := Go.Deep.choose_lt (α := Row) (n := m) (p := fun i r => W.cell? (a.add i) = some r.val ∧ r.ok W) (fun i hi => by
      obtain ⟨h1, h2⟩ := hV i hi
      have : ∃ A l c, V i = .slice A l c := by
        rcases open_ints he hb hc2 h2 with ⟨hcs, _⟩ | ⟨x, l, c, zs, hcs, _⟩
        · exact ⟨none, 0, 0, by simpa using hcs⟩
        · exact ⟨some x, l, c, by simpa using hcs⟩
      obtain ⟨A, l, c, hv⟩ := this
      rw [hv] at h1 h2
      obtain ⟨xs, hx1, hx2⟩ := open_bytes_sl (enc := enc) he hb hc2 (W := W) (a0 := A) (len := l) (cap := c) (d0 := D i) (p := Pl i) ⟨n, by simpa [Value.cells] using h2⟩
      subst hx1
      exact ⟨⟨A, c, xs⟩, h1, hx2⟩)
    refine ⟨(List.range len).map R, by simp, ⟨by simp; omega, hm, (fun h => by cases h), ?_⟩, ?_⟩
    · by_cases h0 : len = 0
      · left; subst h0; rfl
      · right
        obtain ⟨blk, off, spot⟩ := a
        have hspot : spot = none := by simpa [Addr.add] using World.cell?_spot (hR 0 (by omega)).1
        subst hspot
        refine ⟨blk, off, rfl, fun j u hu => ?_⟩
        simp only [List.map_map, List.getElem?_map] at hu
        by_cases hj : j < len
        · simp [hj] at hu
          have := (hR j (by omega)).1
          rw [Addr.add_lit] at this
          rw [this, ← hu]
        · simp [hj] at hu
    · intro r hr
      simp at hr
      obtain ⟨i, hi, rfl⟩ := hr
      exact (hR i (by omega)).2
end Go.Proofs.Ytpabbhhaagfoeaa
