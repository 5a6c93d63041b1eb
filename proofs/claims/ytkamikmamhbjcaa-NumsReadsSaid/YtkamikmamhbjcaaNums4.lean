/- Package nums: the reader's rows of bytes, and a new reader. -/
import Derived.Test.YtkamikmamhbjcaaNums3
namespace Go.Proofs.Ytkamikmamhbjcaa
open Go.RowKit

theorem IsReader.lt {w : World} {g : Nat} {k : Option Nat} {err : Int} {xs : List UInt8} (h : IsReader w g k err xs) : g < w.heap.size := by
  obtain ⟨_, _, _, hb, _, _⟩ := h
  exact hb.lt
theorem IsReader.alloc' {w : World} {g : Nat} {k : Option Nat} {err : Int} {xs : List UInt8} (h : IsReader w g k err xs) (o : Obj) : IsReader (w.alloc o) g k err xs :=
  h.mods (S := Nil) ((Mods.refl _ _).alloc o) (fun h => h) (fun _ _ h => h)
theorem valOf_lt64 (xs : List UInt8) (err : Int) : (readUint err xs).2.2 < 18446744073709551616 := by
  unfold readUint
  split
  · show (0 : Nat) < 18446744073709551616; omega
  · split
    · show (0 : Nat) < 18446744073709551616; omega
    · rename_i h1 h2
      obtain ⟨c, r, rfl, h8, hs⟩ := numErr_zero_inv (Classical.not_not.1 h2)
      simp only [List.headD_cons, List.drop_succ_cons, List.drop_zero]
      have h3 := valOf_lt (r.take c.toNat).length (r.take c.toNat) rfl
      have h2 : 256 ^ (r.take c.toNat).length ≤ 256 ^ 8 := Nat.pow_le_pow_right (by omega) (by simp; omega)
      have h4 : (256 : Nat) ^ 8 = 18446744073709551616 := rfl
      omega
theorem readUint_le (xs : List UInt8) (err : Int) : (readUint err xs).2.1.length ≤ xs.length := by
  unfold readUint
  split
  · exact Nat.le_refl _
  · split <;> simp

theorem bytes_any {w : World} {g : Nat} {k : Option Nat} {err : Int} {xs : List UInt8} (most : Int) (hmost : most ≤ 9223372036854775807) (hlim : xs.length ≤ 140737488355328) (h : IsReader w g k err xs) :
    Calls Try.prog 20 #[.pointer (some ⟨g, 0, none⟩), .int .i64 most] w (Told w g k (readBytes err xs most)) := by
  have hq := valOf_lt64 xs err
  have hql := readUint_le xs err
  have hU := uint_any hlim h
  unfold readBytes
  generalize readUint err xs = R at hq hql hU
  obtain ⟨e1, ys, q⟩ := R
  simp only at hq hql hU ⊢
  have HU := Lib.hid hU
  clear hU h
  by_cases he : e1 = 0
  · subst he
    rw [if_neg (by simp)]
    by_cases hm : most < 0
    · rw [if_pos (.inl hm)]
      have hm' : decide (most < 0) = true := by simpa using hm
      go_enter Try.func20, Try.ntmps20
      go_wp2_with (first | (go_at_call 18; refine (HU.out).mono ?_; rintro e w' ⟨rfl, hr, hmo⟩; have HR := Lib.hid hr; have HM := Lib.hid hmo; clear hr hmo) | (go_at_call 24; refine (err_any HR.out).mono ?_; rintro e w' ⟨rfl, rfl⟩) | (go_at_call 30; refine (fail_any 13 0 HR.out).mono ?_; rintro e w' ⟨rfl, hr2, hm2⟩; have HR2 := Lib.hid hr2; have HM2 := Lib.hid hm2; clear hr2 hm2))
      go_ret
      exact ⟨none, 0, rfl, Sl.none_ _, .inl rfl, HR2.out, HM.out.trans HM2.out⟩
    · have hm' : decide (most < 0) = false := by simpa using hm
      have hw : IntKind.u64.wrap most = most := by rw [IntKind.wrap_u64]; omega
      by_cases hb : most < (q : Int)
      · rw [if_pos (.inr hb)]
        go_enter Try.func20, Try.ntmps20
        go_wp2_with (first | (go_at_call 18; refine (HU.out).mono ?_; rintro e w' ⟨rfl, hr, hmo⟩; have HR := Lib.hid hr; have HM := Lib.hid hmo; clear hr hmo) | (go_at_call 24; refine (err_any HR.out).mono ?_; rintro e w' ⟨rfl, rfl⟩) | (go_at_call 30; refine (fail_any 13 0 HR.out).mono ?_; rintro e w' ⟨rfl, hr2, hm2⟩; have HR2 := Lib.hid hr2; have HM2 := Lib.hid hm2; clear hr2 hm2))
        go_ret
        exact ⟨none, 0, rfl, Sl.none_ _, .inl rfl, HR2.out, HM.out.trans HM2.out⟩
      · rw [if_neg (fun h => h.elim hm hb)]
        have hq2 : (q : Int) ≤ 9223372036854775807 := by omega
        go_enter Try.func20, Try.ntmps20
        go_wp2_with (first | (go_at_call 18; refine (HU.out).mono ?_; rintro e w' ⟨rfl, hr, hmo⟩; have HR := Lib.hid hr; have HM := Lib.hid hmo; clear hr hmo) | (go_at_call 24; refine (err_any HR.out).mono ?_; rintro e w' ⟨rfl, rfl⟩) | (go_at_call 22; refine (raw_any (q : Int) (by omega) HR.out).mono ?_; rintro e w' ⟨A2, c2, rfl, h1, h2, h3, h4⟩; have H1 := Lib.hid h1; have H2 := Lib.hid h2; have H3 := Lib.hid h3; have H4 := Lib.hid h4; clear h1 h2 h3 h4))
        go_ret
        exact ⟨A2, c2, rfl, H1.out, (H2.out.elim .inl (fun h => .inr fun a ha => Nat.le_trans HM.out.size (h a ha))), H3.out, HM.out.trans H4.out⟩
  · rw [if_pos he]
    have hb2 : (e1 != 0) = true := by simp [he]
    have hb3 : (e1 == 0) = false := by simp [he]
    go_enter Try.func20, Try.ntmps20
    go_wp2_with (first | (go_at_call 18; refine (HU.out).mono ?_; rintro e w' ⟨rfl, hr, hmo⟩; have HR := Lib.hid hr; have HM := Lib.hid hmo; clear hr hmo) | (go_at_call 24; refine (err_any HR.out).mono ?_; rintro e w' ⟨rfl, rfl⟩))
    go_ret
    exact ⟨none, 0, rfl, Sl.none_ _, .inl rfl, HR.out, HM.out⟩

theorem bytes_nil (w : World) (n : Int) : Calls Try.prog 20 #[.pointer none, .int .i64 n] w fun e w' => e = .returned (.slice none 0 0) ∧ w = w' := by
  go_enter Try.func20, Try.ntmps20
  go_wp2_with (first | (go_at_call 18; refine (uint_nil _).mono ?_; rintro e w' ⟨rfl, rfl⟩) | (go_at_call 24; refine (err_nil _).mono ?_; rintro e w' ⟨rfl, rfl⟩))
  go_ret
  exact ⟨rfl, rfl⟩

theorem newReader_any {w : World} {A : Option Addr} {c n : Nat} {xs : List UInt8} (hn : xs.length = n) (hlim : xs.length ≤ 140737488355328) (h : Sl w A c (bts xs)) :
    Calls Try.prog 17 #[.slice A n c] w fun e w' => ∃ g k, e = .returned (.pointer (some ⟨g, 0, none⟩)) ∧ IsReader w' g k 0 xs ∧ w.heap.size ≤ g ∧ (∀ q, k = some q → w.heap.size ≤ q ∧ q < w'.heap.size) ∧ Mods Nil w w' := by
  subst hn
  obtain ⟨i0, hi, hz0, hz1, hz2⟩ := info_parts infoByte
  have HS := Lib.hid h
  clear h
  go_enter Try.func17, Try.ntmps17
  go_wp2_with (first | (at_builtin; refine wpList_append_sl _ rfl _ _ 23 rfl w.heap.size 5 i0 (.int .u8 0) 1 Try.underlying23 hi hz0 hz1 hz2 rfl (.slice none 0 0) 0 [] rfl (World.ownsRow_nil w _ _ _) A xs.length c (bts xs) rfl (by simp) HS.out (bts_one _) (by omega) (by unfold maxLen; omega) (Nat.le_refl _) ?_; intro v' w1 hown hgrow hblk; obtain ⟨A1, c1, rfl, e1, hs1, ha1⟩ := own_slice hown; have HLT : Hid (∀ a, A1 = some a → a.block < w1.heap.size) := fun a ha => (hown.lt _ (ha1 a ha).1).2; have HS1 := Lib.hid hs1; have HA1 := Lib.hid ha1; have HG := Lib.hid hgrow; clear hown hs1 ha1 hgrow hblk))
  go_ret
  simp only [List.nil_append, Nat.zero_add] at HS1 HA1
  have hs1 := HS1.out
  have hg := HG.out
  have hblk : ∀ a, A1 = some a → w.heap.size ≤ a.block ∧ a.block < w1.heap.size := fun a ha => by
    have := (HA1.out a ha).2
    exact ⟨this, HLT.out a ha⟩
  refine ⟨w1.heap.size, A1.map (·.block), rfl, ⟨?_, A1, c1, Blk.new _ _ _, hs1.alloc _, fun a ha => by subst ha; rfl⟩, hg.size, ?_, ?_⟩
  · intro h
    cases A1 with
    | none => simp at h
    | some a => simp at h; have := (hblk a rfl).2; omega
  · intro q hq
    cases A1 with
    | none => simp at hq
    | some a => simp at hq; subst hq; have := hblk a rfl; simp; omega
  · exact ((Mods.refl Nil w).grown hg (fun k hk => by simp [Value.ownBlock] at hk)).alloc _
end Go.Proofs.Ytkamikmamhbjcaa
