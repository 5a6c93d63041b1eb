/- Package sums: bytes compared; what is right. -/
import Derived.Test.YtncmmiecfkfcgaaSums6
import Derived.Test.YtncmmiecfkfcgaaCrc2
import Derived.Deep.RegionHeld
namespace Go.Proofs.Ytncmmiecfkfcgaa
open Go.RowKit
set_option linter.unusedVariables false

theorem equal_any {w : World} {A B : Option Addr} {c d n m : Nat} {xs ys : List UInt8} (hn : xs.length = n) (hm : ys.length = m) (hs : Sl w A c (bts xs)) (hy : Sl w B d (bts ys)) :
    Calls Try.prog 31 #[.slice A n c, .slice B m d] w fun e w' => e = .returned (.bool (decide (xs = ys))) ∧ w = w' := by
  have k1 := run_string_sl (P := Try.prog) w 22 5 Try.underlying22 Try.underlying5 A n c xs hn hs 9 Try.underlying9
  have k2 := run_string_sl (P := Try.prog) w 22 5 Try.underlying22 Try.underlying5 B m d ys hm hy 9 Try.underlying9
  have e1 := strOf_toList xs
  have e2 := strOf_toList ys
  clear hs hy hn hm
  go_enter Try.func31, Try.ntmps31
  go_wp2_with fail
  go_ret
  refine ⟨?_, rfl⟩
  show Ending.returned (.bool (xs == ys)) = _
  rw [show (xs == ys) = decide (xs = ys) by rw [Bool.eq_iff_iff]; simp]


set_option maxHeartbeats 3200000 in
theorem right_any {w : World} {A : Option Addr} {c n : Nat} {xs : List UInt8} (hn : xs.length = n) (hs : Sl w A c (bts xs)) :
    Calls Try.prog 17 #[.slice A n c] w fun e w' => e = .returned (.bool (rightOf xs)) ∧ Mods Nil w w' := by
  have hle := hs.le
  have hmx := hs.max
  unfold maxLen at hmx
  simp at hle
  by_cases h4 : n < 4
  · rw [rightOf_short (by omega)]
    have hd1 : decide ((4 : Int) ≤ (n : Int)) = false := by simp; omega
    have hn4 : n ≤ 4 := by omega
    clear hs hle hmx h4 hn
    go_enter Try.func17, Try.ntmps17
    go_wp2_with fail
    go_quiet (fail)
    go_wp2
    go_ret
    exact ⟨rfl, (Mods.refl _ _).drewN _⟩
  · obtain ⟨k, rfl⟩ : ∃ k, n = k + 4 := ⟨n - 4, by omega⟩
    rw [rightOf_long hn]
    obtain ⟨b, off, rfl, hbl, _⟩ := hs.at_ (by simp; omega)
    have hcut := hs.cut (k := k) (by simp; omega)
    rw [if_neg (by omega), bts_drop] at hcut
    simp only [Option.map_some, Addr.add_lit] at hcut
    have htake := hs.take k
    rw [bts_take] at htake
    have HC := Lib.hid hcut
    have HT := Lib.hid htake
    have HN := Lib.hid hn
    have hkc : k + 4 ≤ c := by omega
    have hlt : (xs.take k).length = k := by simp; omega
    have hld : (xs.drop k).length = 4 := by simp; omega
    have HLT := Lib.hid hlt
    have HLD := Lib.hid hld
    clear hcut htake hn hs hle h4 hlt hld
    go_enter Try.func17, Try.ntmps17
    have hk0 : (0 : Int) ≤ (k : Int) := by omega
    have hd1 : decide ((0 : Int) ≤ (k : Int)) = true := by simp
    have hkcI : (k : Int) + 4 ≤ (c : Int) := by omega
    have hkcJ : (k : Int) ≤ (c : Int) := by omega
    have hck : ¬ c = k := by omega
    have hsub : k + 4 - k = 4 := by omega
    go_wp2_with fail
    go_region_held (fun _ => True) (trivial) (first
      | (go_at_call 33; refine (of_any (l := [⟨some ⟨b, off, none⟩, c, xs.take k⟩]) rfl (one_row HLT.out) (by intro r hr; simp at hr; subst hr; exact (HT.out.drew.alloc _))).mono ?_; rintro e w3 ⟨rfl, m3⟩; have M3 := Lib.hid ((((Mods.refl Nil w).drew.alloc _)).trans m3); clear m3)
      | (go_at_call 32; refine (put_any (v := .slice none 0 0) (n := 0) (xs := []) (World.ownsRow_nil _ _ _ _) (Nat.le_refl _) (by omega) _ (sumOf_lt _)).mono ?_; rintro e w4 ⟨v4, rfl, hown, hgrow, hblk⟩; obtain ⟨A4, c4, rfl, e4, s4, b4⟩ := own_slice hown; have S4 := Lib.hid s4; have M4 := Lib.hid (M3.out.trans (Mods.ofGrown hgrow)); clear hown hgrow hblk e4 s4 b4)
      | (go_at_call 31; refine (equal_any HLD.out rfl (HC.out.mods M4.out (fun _ _ h => h)) S4.out).mono ?_; rintro e w5 ⟨rfl, rfl⟩))
    all_goals
      go_wp2
      go_ret
      exact ⟨by rw [flat_one]; rfl, M4.out⟩
end Go.Proofs.Ytncmmiecfkfcgaa
