/- Plain laws on strings, boxes of two cells and new blocks, at this seat's types. -/
import Derived.Test.YtncmmiecfkfcgaaProg
import Derived.Test.YtncmmiecfkfcgaaMem
import Derived.Outline
import Derived.WalkLawsBesides
import Derived.Lib.SlBytesConst
import Derived.Deep.RegionWith
import Derived.Deep.RegionLaw
namespace Go.Proofs.Ytncmmiecfkfcgaa
open Go.RowKit

theorem infoByte : (Try.prog.info? 5).map (fun i => (i.zero, i.size, i.bytes)) = some (some (.int .u8 0), 1, 1) := by kernel_rfl
theorem take_snoc' (l : List UInt8) (k : Nat) (h : k < l.length) : l.take (k + 1) = l.take k ++ [l[k]] := by
  rw [List.take_succ_eq_append_getElem h]
theorem one_sl (w : World) (u : Value) (t : TypeId) : Sl (w.alloc (.cells #[u] t)) (some ⟨w.heap.size, 0, none⟩) 1 [u] := by
  refine ⟨Nat.le_refl _, by unfold maxLen; omega, (fun h => by cases h), .inr ⟨w.heap.size, 0, rfl, fun j u' hu => ?_⟩⟩
  have hb := (Blk.new w t #[u]).cell (0 + j)
  rw [hb]
  match j, hu with
  | 0, hu => simpa using hu
theorem grown_of_drew {w w' : World} {r : Option Nat} (h : w.drew.grownBy w' r) : w.grownBy w' r := ⟨h.os, h.tape, h.output, h.size, h.block⟩
theorem ofNat_toNat (n : Nat) (h : n < 256) : ((UInt8.ofNat n).toNat : Int) = (n : Int) := by simp; omega
theorem byte_at (x p : Nat) : IntKind.u8.wrap ((x : Int) / 2 ^ (8 * (p : Int)).toNat) = ((UInt8.ofNat (x / 256 ^ p % 256)).toNat : Int) := by
  have e0 : (8 * (p : Int)).toNat = 8 * p := by omega
  have e1 : (2 : Int) ^ (8 * p) = ((256 ^ p : Nat) : Int) := by rw [Int.pow_mul]; simp
  rw [IntKind.wrap_u8', e0, e1, ← Int.natCast_ediv, ofNat_toNat _ (Nat.mod_lt _ (by omega))]
  generalize x / 256 ^ p = z
  omega
theorem Mods.nil_trans {T : Nat → Prop} {w w1 w2 : World} (h : Mods Nil w w1) (k : Mods T w1 w2) (hT : ∀ i, T i → w.heap.size ≤ i) : Mods Nil w w2 :=
  h.trans2 k (fun i hi ht => by have := hT i ht; omega)
theorem Mods.nil_below {w w' : World} (h : Mods Nil w w') : Below w.heap.size w w' := h.below (fun _ h => h.elim) (Nat.le_refl _)
theorem Mods.of_below {w w' : World} (h : Below w.heap.size w w') : Mods Nil w w' := ⟨h.os, h.tape, h.output, h.size, fun k hk _ => h.block k hk⟩
/-- A new block of cells, as a slice. -/
theorem build_sl (w : World) (cs : Array Value) (t : TypeId) (fr : Nat × Nat) (hm : cs.size ≤ maxLen) : Sl (w.alloc (.cells cs t fr)) (some ⟨w.heap.size, 0, none⟩) cs.size cs.toList := by
  refine ⟨by simp, hm, (fun h => by cases h), .inr ⟨w.heap.size, 0, rfl, fun j u hu => ?_⟩⟩
  rw [World.cell?_alloc_mark]
  simpa using hu
theorem strOf_append (xs ys : List UInt8) : strOf xs ++ strOf ys = strOf (xs ++ ys) := by
  unfold strOf
  exact ByteArray.mk_append_mk xs ys
theorem string_add (P : Program) (xs ys : List UInt8) (h : xs.length + ys.length ≤ 9223372036854775807) (w : World) : (Op.stringOp .add (strOf xs) (strOf ys)).run P w = .ok (.string (strOf (xs ++ ys))) w := by
  rw [run_string_add_sum w _ _ (by simpa using h), strOf_append]
/-- A new block of one byte reads as a text. -/
theorem one_string (w : World) (z : Int) (y : UInt8) (hz : z = (y.toNat : Int)) (fr : Nat × Nat) : (convert 22 9 (.slice (some ⟨w.heap.size, 0, none⟩) 1 1)).run Try.prog (w.alloc (.cells #[.int .u8 z] 5 fr)) = .ok (.string (strOf [y])) (w.alloc (.cells #[.int .u8 z] 5 fr)) := by
  subst hz
  exact run_string_sl _ 22 5 Try.underlying22 Try.underlying5 _ 1 1 [y] rfl (build_sl w #[.int .u8 (y.toNat : Int)] 5 fr (by simp [maxLen])) 9 Try.underlying9
theorem one_string_later {w w' : World} (z : Int) (y : UInt8) (hz : z = (y.toNat : Int)) (fr : Nat × Nat) (hm : Mods Nil (w.alloc (.cells #[.int .u8 z] 5 fr)) w') : (convert 22 9 (.slice (some ⟨w.heap.size, 0, none⟩) 1 1)).run Try.prog w' = .ok (.string (strOf [y])) w' := by
  subst hz
  exact run_string_sl _ 22 5 Try.underlying22 Try.underlying5 _ 1 1 [y] rfl ((build_sl w #[.int .u8 (y.toNat : Int)] 5 fr (by simp [maxLen])).mods hm (fun _ _ h => h)) 9 Try.underlying9
theorem strOf_extract (xs : List UInt8) (a b : Nat) : (strOf xs).extract a b = strOf ((xs.drop a).take (b - a)) := ByteArray.extract_mk xs a b
theorem index_strOf (w : World) (xs : List UInt8) (i : Nat) (h : i < xs.length) : (Instr.index 9 (.string (strOf xs)) (.int .i64 (i : Int))).run Try.prog w = .ok (.int .u8 (xs[i].toNat : Int)) w := by
  rw [run_index_string w _ _ _ _ Try.underlying9, dif_pos (by simp; omega)]
  congr 3
theorem two_boxes {w w' : World} {t t' : TypeId} {a b c d : Value} (hm : Mods Nil ((w.alloc (.cells #[a, b] t)).alloc (.cells #[c, d] t')) w') :
    Blk w' w.heap.size t #[a, b] ∧ Blk w' (w.heap.size + 1) t' #[c, d] := by
  have h1 := ((Blk.new w t #[a, b]).alloc (.cells #[c, d] t')).mods hm (fun h => h)
  have h2 := (Blk.new (w.alloc (.cells #[a, b] t)) t' #[c, d]).mods hm (fun h => h)
  simp at h2
  exact ⟨h1, h2⟩
theorem Blk.two {w : World} {g : Nat} {t : TypeId} {a b : Value} (h : Blk w g t #[a, b]) : w.cell? ⟨g, 0, none⟩ = some a ∧ w.cell? ⟨g, 1, none⟩ = some b ∧ w.frozen? ⟨g, 0, none⟩ = false ∧ w.frozen? ⟨g, 1, none⟩ = false :=
  ⟨by simpa using h.cell 0, by simpa using h.cell 1, h.frozen 0, h.frozen 1⟩
theorem set_both {w : World} {g g' : Nat} {t t' : TypeId} {a b c d : Value} (hA : Blk w g t #[a, b]) (hB : Blk w g' t' #[c, d]) (hne : g' ≠ g) (x y : Value) :
    Blk ((w.setCell ⟨g, 0, none⟩ x).setCell ⟨g, 1, none⟩ y) g t #[x, y] ∧ Blk ((w.setCell ⟨g, 0, none⟩ x).setCell ⟨g, 1, none⟩ y) g' t' #[c, d] := by
  refine ⟨?_, (hB.far hne _).far hne _⟩
  have := (hA.set_ 0 x).set_ 1 y
  simpa using this
theorem set_one {w : World} {g : Nat} {t : TypeId} {a b : Value} (hA : Blk w g t #[a, b]) (x y : Value) : Blk ((w.setCell ⟨g, 0, none⟩ x).setCell ⟨g, 1, none⟩ y) g t #[x, y] := by
  have := (hA.set_ 0 x).set_ 1 y
  simpa using this
theorem set_second {w : World} {g g' : Nat} {t t' : TypeId} {a b c d : Value} (hA : Blk w g t #[a, b]) (hB : Blk w g' t' #[c, d]) (hne : g' ≠ g) (y : Value) :
    Blk (w.setCell ⟨g, 1, none⟩ y) g t #[a, y] ∧ Blk (w.setCell ⟨g, 1, none⟩ y) g' t' #[c, d] := by
  refine ⟨?_, hB.far hne _⟩
  have := hA.set_ 1 y
  simpa using this
theorem Mods.setNew {S : Nat → Prop} {w w' : World} (h : Mods S w w') {p : Addr} (hp : w.heap.size ≤ p.block) (u : Value) : Mods S w (w'.setCell p u) := h.setCell (fun hlt => absurd hlt (by omega)) u
/-! Whole blocks. -/
theorem Mods.setRow {S : Nat → Prop} {w w' : World} (h : Mods S w w') {g : Nat} (hg : g < w.heap.size → S g) (cs : Array Value) : Mods S w (w'.setRow g cs) :=
  h.trans2 (T := (· = g)) ⟨rfl, rfl, rfl, by simp [World.setRow], fun k _ hn => setRow_other w' g k cs hn⟩ (fun _ hi e => by subst e; exact hg hi)
theorem Blk.setRow {w : World} {g : Nat} {t : TypeId} {old : Array Value} (h : Blk w g t old) (cs : Array Value) : Blk (w.setRow g cs) g t cs := setRow_heap w g old cs t (0, 0) h
theorem Blk.setRow_far {w : World} {g : Nat} {t : TypeId} {cs : Array Value} (h : Blk w g t cs) {k : Nat} (hk : g ≠ k) (new : Array Value) : Blk (w.setRow k new) g t cs := (setRow_other w k g new hk).trans h
/-- The store of a whole array, as a walk leaves it. -/
theorem run_storeCells_blk {P : Program} {w : World} {g : Nat} {t : TypeId} {old new : Array Value} (h : Blk w g t old) (hs : new.size = old.size) (h1 : new.all (·.oneCell') = true) :
    (storeCells ⟨g, 0, none⟩ new.toList 0).run P w = .ok () (w.setRow g new) := by
  have := run_storeCells_from (P := P) g t new.toList 0 old w h (by simp [hs]) (fun v hv => by
    rw [Array.all_eq_true] at h1
    obtain ⟨i, hi, rfl⟩ := List.getElem_of_mem hv
    simpa using h1 i (by simpa using hi))
  simpa using this
end Go.Proofs.Ytncmmiecfkfcgaa
