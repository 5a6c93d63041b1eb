/- Small helps of the walks of layer 5. -/
import Derived.Test.YtglaenoaeiendaaAwake05
import Derived.Test.YtglaenoaeiendaaInRows
import Derived.Laws.BytesString
import Derived.Laws.BitsAllLaws
namespace Go.Proofs.Ytglaenoaeiendaa
set_option maxRecDepth 100000
open Go.RowKit
set_option linter.unusedVariables false

theorem i64_and3 (n : Int) : bits .and .i64 n 3 = n % 4 := by
  have h3 : (BitVec.ofInt 64 3).toNat = 2 ^ 2 - 1 := by decide
  have key : (BitVec.ofInt 64 n &&& BitVec.ofInt 64 3).toNat = (n % ((2 ^ 64 : Nat) : Int)).toNat % 2 ^ 2 := by
    rw [BitVec.toNat_and, BitVec.toNat_ofInt, h3, Nat.and_two_pow_sub_one_eq_mod]
  show IntKind.i64.wrap ((BitVec.ofInt 64 n &&& BitVec.ofInt 64 3).toNat : Nat) = n % 4
  rw [key, IntKind.wrap_i64]
  omega
/-- []byte(s): a block of the call's own, that may be written. -/
theorem conv_bytes5 (w : World) {zs : List UInt8} {q : Nat} (hq : zs.length = q) (hle : q ≤ 140737488355328) :
    ∃ c W', (convert 9 29 (.string (strOf zs))).run Try.prog w = .ok (.slice (some ⟨w.heap.size, 0, none⟩) q c) W' ∧ Sl W' (some ⟨w.heap.size, 0, none⟩) c (bts zs) ∧ Mods Nil w W' ∧ w.heap.size < W'.heap.size ∧ (0 < q → W'.frozen? ⟨w.heap.size, 0, none⟩ = false) := by
  have hsz : (strOf zs).size = q := by simp [hq]
  have h := run_bytes_of_string (P := Try.prog) w 9 29 5 (strOf zs) Try.underlying9 Try.underlying29 Try.underlying5
  rw [hsz] at h
  obtain ⟨cap, hcap⟩ : ∃ cap, grownCap w q 0 5 = cap := ⟨_, rfl⟩
  have h1 := grownCap_ge w q 0 5
  have h2 := grownCap_le_maxLen w q 0 5 (by unfold maxLen; omega)
  rw [hcap] at h h1 h2
  have hbs : (bytesRow (strOf zs) cap).size = cap := by
    unfold bytesRow
    rw [hsz]
    simp [strOf, hq]
    omega
  refine ⟨_, _, h, ?_, (Mods.refl _ _).drew.alloc _, by simp, fun h0 => ?_⟩
  · have hb := build_sl w.drew (bytesRow (strOf zs) cap) 5 ((bytesRow (strOf zs) cap).size, (bytesRow (strOf zs) cap).size + 1) (by rw [hbs]; exact h2)
    have ht := hb.take q
    rw [hbs] at ht
    have he : (bytesRow (strOf zs) cap).toList.take q = bts zs := by
      unfold bytesRow bts
      simp [strOf]
      rw [List.take_append_of_le_length (by simp [hq]), List.take_of_length_le (by simp [hq])]
    rw [he] at ht
    rw [hbs]
    exact ht
  · have : (w.drew.alloc (.cells (bytesRow (strOf zs) cap) 5 ((bytesRow (strOf zs) cap).size, (bytesRow (strOf zs) cap).size + 1))).heap[w.heap.size]? = some (.cells (bytesRow (strOf zs) cap) 5 ((bytesRow (strOf zs) cap).size, (bytesRow (strOf zs) cap).size + 1)) := heap_alloc_new w.drew _
    unfold World.frozen?
    dsimp only
    rw [this]
    simp only [hbs]
    simp
    omega
/-- One row of those handed in. -/
theorem in5_at {w : World} {A : Option Addr} {c n : Nat} {l : List Row} {ls : List (List UInt8)} (hn : l.length = n) (hls : l.map (·.xs) = ls) (hs : Sl w A c (l.map Row.val)) (hr : ∀ r ∈ l, r.ok w) {j : Nat} (hj : j < n) :
    ∃ b off, ∃ r : Row, A = some ⟨b, off, none⟩ ∧ ls[j]? = some r.xs ∧ r.ok w ∧ w.cell? ⟨b, off + j, none⟩ = some (.slice r.A r.xs.length r.c) := by
  have hj' : j < l.length := by omega
  obtain ⟨b, off, hA, _, hcell⟩ := hs.at_ (by simp; omega)
  refine ⟨b, off, l[j], hA, by rw [← hls]; simp [hj'], hr l[j] (List.getElem_mem hj'), ?_⟩
  exact hcell j _ (by simp [hj', Row.val])
def strs (bs : List (List UInt8)) : List Value := bs.map fun b => .string (strOf b)
theorem strs_length (bs : List (List UInt8)) : (strs bs).length = bs.length := by simp [strs]
theorem strs_at {bs : List (List UInt8)} {j : Nat} {b : List UInt8} (h : bs[j]? = some b) : (strs bs)[j]? = some (.string (strOf b)) := by simp [strs, h]
theorem strs_snoc (bs : List (List UInt8)) (b : List UInt8) : strs (bs ++ [b]) = strs bs ++ [.string (strOf b)] := by simp [strs]
theorem strs_one (bs : List (List UInt8)) : ∀ u ∈ strs bs, u.oneCell' = true := by
  intro u hu
  simp [strs] at hu
  obtain ⟨a, _, rfl⟩ := hu
  rfl
/-- The blocks that may be written lie at others than the net's types. -/
theorem NetAt.typed {w w' : World} {base nb nodes : Nat} {v : Value} {l : List Pk} (h : NetAt w base nb nodes v l) {S : Nat → Prop} (hm : Mods S w w') (hS : ∀ k, S k → k < w.heap.size → ∃ t cs, Blk w k t cs ∧ t ≠ 46 ∧ t ≠ 32 ∧ t ≠ 5) : NetAt w' base nb nodes v l := by
  refine h.mods hm (fun k hk hlt => ?_)
  obtain ⟨t, cs, hb, h1, h2, h3⟩ := hS k hk hlt
  refine ⟨h.far hb h1 h2, fun p hp hx a ha e => ?_⟩
  obtain ⟨cs', hb'⟩ := ((h.oks p hp).2 hx a ha).2
  rw [e] at hb'
  exact hb.ne_ hb' h3 rfl
end Go.Proofs.Ytglaenoaeiendaa
