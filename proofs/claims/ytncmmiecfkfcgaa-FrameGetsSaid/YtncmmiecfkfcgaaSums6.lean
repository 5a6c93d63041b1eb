/- Package sums: what is sealed; bytes compared; what is right. -/
import Derived.Test.YtncmmiecfkfcgaaSums5
import Derived.Test.YtncmmiecfkfcgaaCrc2
import Derived.Deep.RegionWith
namespace Go.Proofs.Ytncmmiecfkfcgaa
open Go.RowKit
set_option linter.unusedVariables false

/-- One row, as a row of rows in a new block. -/
theorem one_row {w : World} {A : Option Addr} {c n : Nat} {xs : List UInt8} (hn : xs.length = n) : Sl (w.alloc (.cells #[.slice A n c] 22)) (some ⟨w.heap.size, 0, none⟩) 1 ([(⟨A, c, xs⟩ : Row)].map Row.val) := by
  subst hn
  exact one_sl w _ _
theorem flat_one (A : Option Addr) (c : Nat) (xs : List UInt8) : flat [⟨A, c, xs⟩] = xs := by simp [flat]
theorem Mods.ofGrown {w w' : World} (hg : w.grownBy w' none) : Mods Nil w w' := (Mods.refl _ _).grown hg (fun k hk => by cases hk)

set_option maxHeartbeats 1600000 in
theorem sealed_any {w : World} {A : Option Addr} {c n : Nat} {xs : List UInt8} (hn : xs.length = n) (hlim : n + 4 ≤ 140737488355328) (hs : Sl w A c (bts xs)) :
    Calls Try.prog 24 #[.slice A n c] w fun e w' => ∃ v, e = .returned v ∧ w'.ownsRow w.heap.size 5 1 v (n + 4) (bts (sealedOf xs)) ∧ Mods Nil w w' := by
  obtain ⟨i0, hi, hz0, hz1, hz2⟩ := info_parts infoByte
  have hle := hs.le
  simp at hle
  have HN := Lib.hid hn
  have HS := Lib.hid hs
  have HL := Lib.hid hlim
  have h4 : (n : Int) + 4 ≤ 140737488355328 := by omega
  clear hn hs hle hlim
  go_enter Try.func24, Try.ntmps24
  go_wp2_with (first
    | (at_make; refine wpList_make_own _ rfl _ _ _ rfl w.heap.size 5 i0 (.int .u8 0) 1 Try.underlying22 hi hz0 hz1 _ _ _ (n + 4) rfl rfl (by omega) (by have := HL.out; rw [hz2]; omega) (by have := HL.out; unfold maxLen; omega) (Nat.le_refl _) ?_; intro w1 hown hgrow; have HO1 := Lib.hid hown; have M1 := Lib.hid (Mods.ofGrown hgrow); have S1 := Lib.hid (HS.out.mods M1.out (fun _ _ h => h)); clear hown hgrow)
    | (at_builtin; refine wpList_append_sl _ rfl _ _ 22 rfl w.heap.size 5 i0 (.int .u8 0) 1 Try.underlying22 hi hz0 hz1 hz2 rfl (.slice (some ⟨w.heap.size, 0, none⟩) 0 (n + 4)) 0 [] rfl HO1.out A n c (bts xs) rfl (by simp; exact HN.out) S1.out (bts_one _) (by have := HL.out; omega) (by have := HL.out; unfold maxLen; omega) M1.out.size ?_; intro v2 w2 hown hgrow hblk; simp only [Nat.zero_add, List.nil_append] at hown; have HO2 := Lib.hid hown; have M2 := Lib.hid (show Mods Nil w w2 from M1.out.trans2 (T := fun k => k = w.heap.size) ((Mods.refl _ _).grown hgrow (fun k hk _ => by simp [Value.ownBlock] at hk; exact hk.symm)) (fun i hi' e => by omega)); have S2 := Lib.hid (HS.out.mods M2.out (fun _ _ h => h)); clear hown hgrow hblk)
    | (go_at_call 33; refine (of_any (l := [⟨A, c, xs⟩]) rfl (one_row HN.out) (by intro r hr; simp at hr; subst hr; exact S2.out.alloc _)).mono ?_; rintro e w3 ⟨rfl, m3⟩; have HO3 := Lib.hid (own_mods HO2.out ((Mods.refl Nil w2).alloc _ |>.trans m3) (fun _ _ h => h)); have M3 := Lib.hid ((M2.out.alloc _).trans m3); clear m3)
    | (go_at_call 32; refine (put_any HO3.out M3.out.size (by have := HL.out; omega) _ (sumOf_lt _)).mono ?_; rintro e w4 ⟨v4, rfl, hown, hgrow, hblk⟩; have HO4 := Lib.hid hown; have M4 := Lib.hid (show Mods Nil w w4 from M3.out.nil_trans (T := fun k => v2.ownBlock = some k) ((Mods.refl _ _).grown hgrow (fun k hk _ => hk)) (fun i hi' => (HO3.out.lt i hi').1)); clear hown hgrow hblk))
  go_ret
  refine ⟨v4, rfl, ?_, M4.out⟩
  have := HO4.out
  rw [flat_one] at this
  exact this

/-- The same, as a slice. -/
theorem sealed_to {w : World} {A : Option Addr} {c n m : Nat} {xs : List UInt8} (hn : xs.length = n) (hm : n + 4 = m) (hlim : m ≤ 140737488355328) (hs : Sl w A c (bts xs)) :
    Calls Try.prog 24 #[.slice A n c] w fun e w' => ∃ A' c', e = .returned (.slice A' m c') ∧ Sl w' A' c' (bts (sealedOf xs)) ∧ m ≤ c' ∧ c' ≤ maxLen ∧ (∀ a, A' = some a → w.heap.size ≤ a.block) ∧ Mods Nil w w' := by
  subst hm
  refine (sealed_any hn hlim hs).mono ?_
  rintro e w' ⟨v, rfl, o, m⟩
  obtain ⟨A', c', rfl, f, s, b⟩ := own_slice o
  exact ⟨A', c', rfl, s, by have := s.le; rw [bts_length, sealedOf_length] at this; omega, s.max, fun a ha => (b a ha).2, m⟩
end Go.Proofs.Ytncmmiecfkfcgaa
