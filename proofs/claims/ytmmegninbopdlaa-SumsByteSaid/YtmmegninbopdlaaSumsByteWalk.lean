/- SumsByte's walk. -/
import Derived.Test.YtmmegninbopdlaaAwake02
import Derived.Test.YtmmegninbopdlaaCrc2
import Derived.Test.YtmmegninbopdlaaOpen
namespace Go.Proofs.Ytmmegninbopdlaa
open Go.RowKit
set_option linter.unusedVariables false

/-- The sum of one row. -/
theorem of_one {w : World} {A : Option Addr} {c n : Nat} {xs : List UInt8} (g : Nat) (hg : g = w.heap.size) (hn : xs.length = n) (hs : Sl w A c (bts xs)) :
    Calls Try.prog 9 #[.slice (some ⟨g, 0, none⟩) 1 1] (w.alloc (.cells #[.slice A n c] 23)) fun e w' => e = .returned (.int .u32 (sumOf xs : Nat)) ∧ Mods Nil w w' := by
  subst hg
  refine (of_any (l := [⟨A, c, xs⟩]) rfl (one_row hn) (by intro r hr; simp at hr; subst hr; exact hs.alloc _)).mono ?_
  rintro e w' ⟨he, m⟩
  rw [flat_one] at he
  exact ⟨he, ((Mods.refl _ _).alloc _).trans m⟩

set_option maxHeartbeats 1600000 in
theorem sumsByte_nat (w : World) {A : Option Addr} {c n : Nat} {xs : List UInt8} (hn : xs.length = n) (hs : Sl w A c (bts xs)) (at_ : Nat) (hat : at_ < 65536) (x : Nat) (hx : x < 256) :
    Calls Try.prog 6 #[.slice A n c, .int .u16 at_, .int .u8 x] w fun e w' => e = .returned (.bool true) ∧ Mods Nil w w' := by
  have hmx := hs.max
  have hle := hs.le
  unfold maxLen at hmx
  simp at hle
  by_cases h0 : n = 0
  · subst h0
    clear hs
    go_enter Try.func6, Try.ntmps6
    go_wp2_with (first | (go_at_call 8; refine (awake_any _).mono ?_; rintro e w1 ⟨rfl, m1⟩; have M1 := Lib.hid m1; clear m1))
    go_ret
    exact ⟨rfl, M1.out⟩
  by_cases hbig : 500 < n
  · have hb : (500 : Int) < (n : Int) := by omega
    have hb0 : ((n : Int) == 0) = false := by rw [beq_eq_false_iff_ne]; omega
    clear hs
    go_enter Try.func6, Try.ntmps6
    go_wp2_with (first | (go_at_call 8; refine (awake_any _).mono ?_; rintro e w1 ⟨rfl, m1⟩; have M1 := Lib.hid m1; clear m1))
    go_ret
    exact ⟨rfl, M1.out⟩
  · have hb : (n : Int) ≤ 500 := by omega
    have hb' : n ≤ 500 := by omega
    have hb0 : ((n : Int) == 0) = false := by rw [beq_eq_false_iff_ne]; omega
    obtain ⟨i0, hi, hz0, hz1, hz2⟩ := info_parts infoByte
    have HN := Lib.hid hn
    have HS := Lib.hid hs
    obtain ⟨k, hk⟩ : ∃ k, at_ % n = k := ⟨_, rfl⟩
    have hkn : k < n := by rw [← hk]; exact Nat.mod_lt _ (by omega)
    have hkI : (at_ : Int) % (n : Int) = (k : Int) := by rw [← hk]; omega
    have hkJ : (k : Int) < (n : Int) := by omega
    have hkl : k < xs.length := by omega
    obtain ⟨y, hy⟩ : ∃ y, y = xs[k] ^^^ UInt8.ofNat x := ⟨_, rfl⟩
    have hxor : bits .xor .u8 (xs[k].toNat : Int) (x : Int) = (y.toNat : Int) := by
      rw [u8_xor_nat _ _ xs[k].toNat_lt hx, hy, UInt8.toNat_xor]
      simp [Nat.mod_eq_of_lt hx]
    have hsum : (((sumOf xs : Nat) : Int) == ((sumOf (xs.set k y) : Nat) : Int)) = ((x : Int) == 0) := by
      have h1 := sumOf_set xs k hkl y
      rw [Bool.eq_iff_iff]
      simp only [beq_iff_eq]
      constructor
      · intro h
        have h2 := h1.1 (by omega)
        rw [hy] at h2
        have h3 := congrArg (xs[k] ^^^ ·) h2
        simp only [← UInt8.xor_assoc, UInt8.xor_self, UInt8.zero_xor] at h3
        have h4 := congrArg UInt8.toNat h3
        simp at h4
        omega
      · intro h
        have h2 : x = 0 := by omega
        have := h1.2 (by rw [hy, h2]; simp)
        omega
    have hget : (bts xs)[k]? = some (.int .u8 (xs[k].toNat : Int)) := bts_get xs k hkl
    have hset : (bts xs).set k (.int .u8 (y.toNat : Int)) = bts (xs.set k y) := by simp [bts, List.map_set]
    have HSET := Lib.hid hset
    have HLEN := Lib.hid (show (xs.set k y).length = n by simp; exact hn)
    generalize xs[k].toNat = d at hxor hget
    generalize y.toNat = z at hxor hset HSET
    clear hs hn hle hk hkl hy hset
    go_enter Try.func6, Try.ntmps6
    go_wp2_with (first
      | (go_at_call 8; refine (awake_any _).mono ?_; rintro e w1 ⟨rfl, m1⟩; have M1 := Lib.hid m1; have S1 := Lib.hid (HS.out.mods m1 (fun _ _ h => h)); clear m1)
      | (at_builtin; (refine wpList_append_sl _ rfl _ _ 23 rfl w1.heap.size 5 i0 (.int .u8 0) 1 Try.underlying23 hi hz0 hz1 hz2 rfl (.slice none 0 0) 0 [] rfl (World.ownsRow_nil _ _ _ _) A n c (bts xs) rfl (by simp; exact HN.out) S1.out (bts_one _) (by omega) (by unfold maxLen; omega) (Nat.le_refl _) ?_; intro v2 w2 hown hgrow hblk; simp only [Nat.zero_add, List.nil_append] at hown; obtain ⟨g, cap, rfl, hnc, hcm, hbg, hgl, hfz, hcl, hst⟩ := own_set hown hkn; have hc := hcl _ hget; have M2 := Lib.hid (show Mods Nil w w2 from M1.out.trans ((Mods.refl _ _).grown hgrow (fun k hk => by simp [Value.ownBlock] at hk))); have HO2 := Lib.hid hst; have HBG := Lib.hid (Nat.le_trans M1.out.size hbg); clear hown hgrow hblk hcl hst hbg))
      | (go_at_call_of 9 (Value.slice (some ⟨w2.heap.size, 0, none⟩) 1 1); (refine (of_one w2.heap.size (by simp) HN.out (HS.out.mods (M2.out.setNew HBG.out _) (fun _ _ h => h))).mono ?_; rintro e w3 ⟨rfl, m3⟩; have M3 := Lib.hid ((M2.out.setNew (p := ⟨g, k, none⟩) HBG.out (.int .u8 z)).trans m3); have HO3 := Lib.hid (own_mods (HO2.out (.int .u8 z)) m3 (fun _ _ h => h)); clear m3))
      | (go_at_call_of 9 (Value.slice (some ⟨w3.heap.size, 0, none⟩) 1 1); (refine (of_one (xs := xs.set k y) w3.heap.size rfl HLEN.out (by have h := HO3.out; rw [HSET.out] at h; obtain ⟨A4, c4, e4, _, s4, _⟩ := own_slice h; injection e4 with e5 e6 e7; subst e5; subst e7; exact s4)).mono ?_; rintro e w4 ⟨rfl, m4⟩; have M4 := Lib.hid (M3.out.trans m4); clear m4)))
    go_ret
    exact ⟨rfl, M4.out⟩
theorem sumsByte_walk (w : World) {A : Option Addr} {c n : Nat} {xs : List UInt8} (hn : xs.length = n) (hs : Sl w A c (bts xs)) {a1 : Int} (w1 : (Lit.int .u16 a1).wf = true) {a2 : Int} (w2 : (Lit.int .u8 a2).wf = true) :
    Calls Try.prog 6 #[.slice A n c, .int .u16 a1, .int .u8 a2] w fun e w' => e = .returned (.bool true) ∧ Mods Nil w w' := by
  have h1 := u16_of_wf w1
  have h2 := u8_of_wf w2
  obtain ⟨n1, rfl⟩ := Int.eq_ofNat_of_zero_le h1.1
  obtain ⟨n2, rfl⟩ := Int.eq_ofNat_of_zero_le h2.1
  exact sumsByte_nat w hn hs n1 (by omega) n2 (by omega)
end Go.Proofs.Ytmmegninbopdlaa
