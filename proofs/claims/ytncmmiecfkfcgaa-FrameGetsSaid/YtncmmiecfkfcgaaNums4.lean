/- Package nums: the reader's rows of bytes, and a new reader. -/
import Derived.Test.YtncmmiecfkfcgaaNums3
namespace Go.Proofs.Ytncmmiecfkfcgaa
open Go.RowKit

theorem IsReader.lt {w : World} {g : Nat} {k : Option Nat} {err : Int} {xs : List UInt8} (h : IsReader w g k err xs) : g < w.heap.size := by
  obtain ⟨_, _, _, hb, _, _⟩ := h
  exact hb.lt
theorem IsReader.alloc' {w : World} {g : Nat} {k : Option Nat} {err : Int} {xs : List UInt8} (h : IsReader w g k err xs) (o : Obj) : IsReader (w.alloc o) g k err xs :=
  h.mods (S := Nil) ((Mods.refl _ _).alloc o) (fun h => h) (fun _ _ h => h)
theorem valOf_lt64 (xs : List UInt8) (err : Int) : (readUint err xs).2.2 < 18446744073709551616 := by
  unfold readUint
  split
  · show (0 : Nat) < 18446744073709551616; omega
  · split
    · show (0 : Nat) < 18446744073709551616; omega
    · rename_i h1 h2
      obtain ⟨c, r, rfl, h8, hs⟩ := numErr_zero_inv (Classical.not_not.1 h2)
      simp only [List.headD_cons, List.drop_succ_cons, List.drop_zero]
      have h3 := valOf_lt (r.take c.toNat).length (r.take c.toNat) rfl
      have h2 : 256 ^ (r.take c.toNat).length ≤ 256 ^ 8 := Nat.pow_le_pow_right (by omega) (by simp; omega)
      have h4 : (256 : Nat) ^ 8 = 18446744073709551616 := rfl
      omega
theorem readUint_le (xs : List UInt8) (err : Int) : (readUint err xs).2.1.length ≤ xs.length := by
  unfold readUint
  split
  · exact Nat.le_refl _
  · split <;> simp

theorem newReader_any {w : World} {A : Option Addr} {c n : Nat} {xs : List UInt8} (hn : xs.length = n) (hlim : xs.length ≤ 140737488355328) (h : Sl w A c (bts xs)) :
    Calls Try.prog 28 #[.slice A n c] w fun e w' => ∃ g k, e = .returned (.pointer (some ⟨g, 0, none⟩)) ∧ IsReader w' g k 0 xs ∧ w.heap.size ≤ g ∧ (∀ q, k = some q → w.heap.size ≤ q ∧ q < w'.heap.size) ∧ Mods Nil w w' := by
  subst hn
  obtain ⟨i0, hi, hz0, hz1, hz2⟩ := info_parts infoByte
  have HS := Lib.hid h
  clear h
  go_enter Try.func28, Try.ntmps28
  go_wp2_with (first | (at_builtin; refine wpList_append_sl _ rfl _ _ 22 rfl w.heap.size 5 i0 (.int .u8 0) 1 Try.underlying22 hi hz0 hz1 hz2 rfl (.slice none 0 0) 0 [] rfl (World.ownsRow_nil w _ _ _) A xs.length c (bts xs) rfl (by simp) HS.out (bts_one _) (by omega) (by unfold maxLen; omega) (Nat.le_refl _) ?_; intro v' w1 hown hgrow hblk; obtain ⟨A1, c1, rfl, e1, hs1, ha1⟩ := own_slice hown; have HLT : Hid (∀ a, A1 = some a → a.block < w1.heap.size) := fun a ha => (hown.lt _ (ha1 a ha).1).2; have HS1 := Lib.hid hs1; have HA1 := Lib.hid ha1; have HG := Lib.hid hgrow; clear hown hs1 ha1 hgrow hblk))
  go_ret
  simp only [List.nil_append, Nat.zero_add] at HS1 HA1
  have hs1 := HS1.out
  have hg := HG.out
  have hblk : ∀ a, A1 = some a → w.heap.size ≤ a.block ∧ a.block < w1.heap.size := fun a ha => by
    have := (HA1.out a ha).2
    exact ⟨this, HLT.out a ha⟩
  refine ⟨w1.heap.size, A1.map (·.block), rfl, ⟨?_, A1, c1, Blk.new _ _ _, hs1.alloc _, fun a ha => by subst ha; rfl⟩, hg.size, ?_, ?_⟩
  · intro h
    cases A1 with
    | none => simp at h
    | some a => simp at h; have := (hblk a rfl).2; omega
  · intro q hq
    cases A1 with
    | none => simp at hq
    | some a => simp at hq; subst hq; have := hblk a rfl; simp; omega
  · exact ((Mods.refl Nil w).grown hg (fun k hk => by simp [Value.ownBlock] at hk)).alloc _
end Go.Proofs.Ytncmmiecfkfcgaa
