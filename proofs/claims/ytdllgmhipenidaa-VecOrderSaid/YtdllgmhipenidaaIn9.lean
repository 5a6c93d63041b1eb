/- A [][]uint64 and a []uint32 that come in: opened. -/
import Derived.Test.YtdllgmhipenidaaTold9
import Derived.Deep.Slices
namespace Go.Proofs.Ytdllgmhipenidaa
set_option maxRecDepth 100000
open Go.ChangeShapes Go.WideShapes Go.ChangeAt Go.RowKit
set_option linter.unusedVariables false
set_option linter.unusedSimpArgs false

/-- A row that is handed in, of any length. -/
structure RowN.inn (w : World) (r : RowN) : Prop where
  sl : Sl w r.A r.c (nums r.xs)
  bd : Bd r.xs
theorem RowN.inn.mods {w w' : World} {r : RowN} (h : RowN.inn w r) (hm : Mods Nil w w') : RowN.inn w' r := ⟨h.sl.mods hm (fun _ _ h => h), h.bd⟩
theorem RowN.inn.ok {w : World} {r : RowN} (h : RowN.inn w r) (hl : r.xs.length ≤ 1000000) : RowN.ok w r := ⟨h.sl, h.bd, hl⟩
theorem open_rows64_sl {H : Type} {enc : TypeId × Value → H} {P : Program} {t e b : TypeId} (ht : P.underlying t = some (.slice e)) (he : P.underlying e = some (.slice b)) (hb : P.underlying b = some (.int .u64)) (hc1 : P.cellsOf e = 1) (hc2 : P.cellsOf b = 1) {W : World} {a0 : Option Addr} {len cap : Nat} {d0 : DataW H} {p : List MemPlace}
    (h0 : DataW.Trod enc P W 0 (fun _ => true) true t (.slice a0 len cap) d0 p) :
    ∃ l : List RowN, l.length = len ∧ Sl W a0 cap (l.map RowN.val) ∧ ∀ r ∈ l, r.inn W := by
  obtain ⟨fuel, hf⟩ := h0
  rcases Go.Deep.open_slice1 ht hc1 hf with ⟨hcs, hx⟩ | ⟨a, ln, cp, m, n, V, D, Pl, hcs, _, hl, hm, hmm, _, hV⟩
  · simp [Value.cells] at hcs
    obtain ⟨rfl, rfl, rfl⟩ := hcs
    exact ⟨[], rfl, Sl.none_ _, fun _ h => by cases h⟩
  · simp [Value.cells] at hcs
    obtain ⟨rfl, rfl, rfl⟩ := hcs
    simp only [if_true] at hmm
    subst hmm
    obtain ⟨R, hR⟩ := Go.Deep.choose_lt (α := RowN) (n := m) (p := fun i r => W.cell? (a.add i) = some r.val ∧ r.inn W) (fun i hi => by
      obtain ⟨h1, h2⟩ := hV i hi
      have : ∃ A l c, V i = .slice A l c := by
        rcases open_ints he hb hc2 h2 with ⟨hcs, _⟩ | ⟨x, l, c, zs, hcs, _⟩
        · exact ⟨none, 0, 0, by simpa using hcs⟩
        · exact ⟨some x, l, c, by simpa using hcs⟩
      obtain ⟨A, l, c, hv⟩ := this
      rw [hv] at h1 h2
      obtain ⟨xs, hx1, hx2, hx3⟩ := open_u64s_sl (enc := enc) he hb hc2 (W := W) (a0 := A) (len := l) (cap := c) (d0 := D i) (p := Pl i) ⟨n, by simpa [Value.cells] using h2⟩
      subst hx1
      exact ⟨⟨A, c, xs⟩, h1, ⟨hx2, Bd.of hx3⟩⟩)
    refine ⟨(List.range len).map R, by simp, ⟨by simp; omega, hm, (fun h => by cases h), ?_⟩, ?_⟩
    · by_cases h0 : len = 0
      · left; subst h0; rfl
      · right
        obtain ⟨blk, off, spot⟩ := a
        have hspot : spot = none := by simpa [Addr.add] using World.cell?_spot (hR 0 (by omega)).1
        subst hspot
        refine ⟨blk, off, rfl, fun j u hu => ?_⟩
        simp only [List.map_map, List.getElem?_map] at hu
        by_cases hj : j < len
        · simp [hj] at hu
          have := (hR j (by omega)).1
          rw [Addr.add_lit] at this
          rw [this, ← hu]
        · simp [hj] at hu
    · intro r hr
      simp at hr
      obtain ⟨i, hi, rfl⟩ := hr
      exact (hR i (by omega)).2
def nums32 (xs : List Nat) : List Value := xs.map fun (n : Nat) => Value.int .u32 (n : Int)
@[simp] theorem nums32_length (xs : List Nat) : (nums32 xs).length = xs.length := by simp [nums32]
theorem u32_of_wf {x : Int} (h : (Lit.int .u32 x).wf = true) : 0 ≤ x ∧ x < 4294967296 := by
  simp [Lit.wf] at h
  have h1 : IntKind.u32.min = 0 := by decide
  have h2 : IntKind.u32.max = 4294967295 := by decide
  omega
theorem nats32_of_wf : ∀ (zs : List Int), (∀ n ∈ zs, (Lit.int .u32 n).wf = true) → ∃ xs : List Nat, zs = xs.map (fun (n : Nat) => (n : Int)) ∧ ∀ n ∈ xs, n < 4294967296
  | [], _ => ⟨[], rfl, fun _ h => by cases h⟩
  | z :: zs, h => by
    obtain ⟨xs, h1, h2⟩ := nats32_of_wf zs (fun n hn => h n (List.mem_cons_of_mem _ hn))
    have hz := u32_of_wf (h z (List.mem_cons_self ..))
    refine ⟨z.toNat :: xs, ?_, ?_⟩
    · rw [List.map_cons, ← h1]
      congr 1
      omega
    · intro n hn
      rcases List.mem_cons.1 hn with rfl | hn
      · omega
      · exact h2 n hn
theorem open_u32s_sl {H : Type} {enc : TypeId × Value → H} {P : Program} {t e : TypeId} (ht : P.underlying t = some (.slice e)) (he : P.underlying e = some (.int .u32)) (hc : P.cellsOf e = 1) {W : World} {a0 : Option Addr} {len cap : Nat} {d0 : DataW H} {p : List MemPlace}
    (h0 : DataW.Trod enc P W 0 (fun _ => true) true t (.slice a0 len cap) d0 p) :
    ∃ xs : List Nat, xs.length = len ∧ Sl W a0 cap (nums32 xs) ∧ ∀ n ∈ xs, n < 4294967296 := by
  obtain ⟨zs, h1, h2, h3⟩ := open_ints_sl ht he hc h0
  obtain ⟨xs, h4, h5⟩ := nats32_of_wf zs h3
  refine ⟨xs, by rw [← h1, h4]; simp, ?_, h5⟩
  rw [h4, List.map_map] at h2
  exact h2
theorem num32_at {w : World} {A : Option Addr} {c j : Nat} {xs : List Nat} (h : Sl w A c (nums32 xs)) (hj : j < xs.length) :
    ∃ b off, A = some ⟨b, off, none⟩ ∧ b < w.heap.size ∧ w.cell? ⟨b, off + j, none⟩ = some (.int .u32 (vat xs j : Int)) := by
  obtain ⟨b, off, hA, hb, hc⟩ := h.at_ (by simp; omega)
  exact ⟨b, off, hA, hb, hc j _ (by simp [nums32, vat_lt hj, hj])⟩
end Go.Proofs.Ytdllgmhipenidaa
