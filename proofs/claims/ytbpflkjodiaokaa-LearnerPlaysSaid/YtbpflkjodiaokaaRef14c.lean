/- The reference of layer 14: Learn. -/
import Derived.Test.YtbpflkjodiaokaaRef14b
namespace Go.Proofs.Ytbpflkjodiaokaa
set_option maxRecDepth 100000
open Go.RowKit
set_option linter.unusedVariables false
set_option linter.unusedSimpArgs false
theorem infoK14 : (Try.prog.info? 43).map (fun i => (i.zero, i.size, i.bytes)) = some (some (.agg #[.int .u64 0, .string ⟨#[]⟩]), 2, 24) := by kernel_rfl
theorem kv_new14 {w : World} {t : TypeId} (p : KV) {g : Nat} (hg : g = w.heap.size) : ∀ j u, (kvC p)[j]? = some u → (w.alloc (.cells #[.int .u64 (p.1 : Int), .string (strOf p.2)] t)).cell? ((⟨g, 0, none⟩ : Addr).add j) = some u := by
  subst hg
  intro j u hu
  rw [Addr.add_lit, Nat.zero_add, (Blk.new w t #[.int .u64 (p.1 : Int), .string (strOf p.2)]).cell]
  simpa [kvC] using hu
theorem rks_own {w : World} {base n : Nat} {v : Value} {l : List KV} (h : w.ownsRow base 43 2 v n (kvs l)) (hl : l.length = n) (hok : ∀ p ∈ l, p.1 < 18446744073709551615) : ∃ A c, v = .slice A n c ∧ RKs w A c n l ∧ (∀ a, A = some a → base ≤ a.block ∧ a.block < w.heap.size) := by
  obtain ⟨A, c, rfl, hs, ho⟩ := own_sls h
  exact ⟨A, c, rfl, ⟨hl, hs, hok⟩, fun a ha => ⟨(ho a ha).2, (h.lt _ (ho a ha).1).2⟩⟩
/-- What Learn tells. -/
def RLearnT (w : World) (A0 : Option Addr) (l : List KV) (s : Nat) (v : List UInt8) (e : Ending) (w' : World) : Prop :=
  ∃ A c n, e = .returned (.tuple #[.slice A n c, .int .i64 (learnE l s v : Int)]) ∧ RKs w' A c n (learnL l s v) ∧ (∀ a, A = some a → A0 = some a ∨ (w.heap.size ≤ a.block ∧ a.block < w'.heap.size)) ∧ Mods Nil w w'
set_option maxHeartbeats 1600000 in
theorem r14learn_any (w : World) {A : Option Addr} {c n : Nat} {l : List KV} (h : RKs w A c n l) (hn : n ≤ 1000) {s : Nat} (hs : s < 18446744073709551616) (v : List UInt8) :
    Calls Try.prog 10 #[.slice A n c, .int .u64 (s : Int), .string (strOf v)] w (RLearnT w A l s v) := by
  obtain ⟨i0, hi, hz0, hz1, hz2⟩ := info_parts infoK14
  have HH := Lib.hid h
  by_cases hm : s = 18446744073709551615
  · have hmI : ((s : Int) == 18446744073709551615) = true := by subst hm; rfl
    have HE : Hid (learnE l s v = 37) := Lib.hid (by unfold learnE; rw [if_pos hm])
    have HL : Hid (learnL l s v = l) := Lib.hid (by unfold learnL; rw [if_pos hm])
    clear h hm
    go_enter Try.func10, Try.ntmps10
    go_wp2
    go_ret2
    exact ⟨A, c, n, by rw [HE.out]; rfl, by rw [HL.out]; exact HH.out, (fun a h => .inl h), Mods.refl _ _⟩
  · have hmI : ((s : Int) == 18446744073709551615) = false := by simp; omega
    have HF := Lib.hid (r14find_any w h (by omega) s)
    have HM := Lib.hid hm
    cases hl : lookL l s with
    | some u =>
      have HLL := Lib.hid hl
      have HL : Hid (learnL l s v = l) := Lib.hid (by unfold learnL; rw [if_neg hm, hl])
      by_cases hu : u = v
      · subst hu
        have HE : Hid (learnE l s u = 31) := Lib.hid (by unfold learnE; rw [if_neg hm, hl]; simp)
        have hne : ((strOf u).toList == (strOf u).toList) = true := by simp
        clear h hm hl
        go_enter Try.func10, Try.ntmps10
        go_wp2_with (go_at_call 19; refine HF.out.mono ?_; rintro e w2 ⟨⟨r, rfl, hr⟩, rfl⟩; obtain ⟨i, rfl, hi1, hi2⟩ : ∃ i : Nat, r = (i : Int) ∧ i < l.length ∧ l[i]? = some (s, u) := (by rcases hr with ⟨_, h2⟩ | ⟨i, x, h1, h2, h3, h4⟩; rw [HLL.out] at h2; cases h2; rw [HLL.out] at h4; injection h4 with h4; subst h4; exact ⟨i, h1, h2, h3⟩); obtain ⟨b, off, rfl, _, z0, z1⟩ := HH.out.cells hi2; have hin : (i : Int) < (n : Int) := (by have := HH.out.len; omega); clear hr hi1 hi2 z0)
        go_ret2
        exact ⟨_, c, n, by rw [HE.out]; rfl, by rw [HL.out]; exact HH.out, (fun a h => .inl h), Mods.refl _ _⟩
      · have HE : Hid (learnE l s v = 33) := Lib.hid (by unfold learnE; rw [if_neg hm, hl]; simp [hu])
        have hne : ((strOf u).toList == (strOf v).toList) = false := by rw [strOf_toList, strOf_toList]; simp [hu]
        clear h hm hl hu
        go_enter Try.func10, Try.ntmps10
        go_wp2_with (go_at_call 19; refine HF.out.mono ?_; rintro e w2 ⟨⟨r, rfl, hr⟩, rfl⟩; obtain ⟨i, rfl, hi1, hi2⟩ : ∃ i : Nat, r = (i : Int) ∧ i < l.length ∧ l[i]? = some (s, u) := (by rcases hr with ⟨_, h2⟩ | ⟨i, x, h1, h2, h3, h4⟩; rw [HLL.out] at h2; cases h2; rw [HLL.out] at h4; injection h4 with h4; subst h4; exact ⟨i, h1, h2, h3⟩); obtain ⟨b, off, rfl, _, z0, z1⟩ := HH.out.cells hi2; have hin : (i : Int) < (n : Int) := (by have := HH.out.len; omega); clear hr hi1 hi2 z0)
        go_ret2
        exact ⟨_, c, n, by rw [HE.out]; rfl, by rw [HL.out]; exact HH.out, (fun a h => .inl h), Mods.refl _ _⟩
    | none =>
      have HLL := Lib.hid hl
      have HE : Hid (learnE l s v = 0) := Lib.hid (by unfold learnE; rw [if_neg hm, hl])
      have HL : Hid (learnL l s v = l ++ [(s, v)]) := Lib.hid (by unfold learnL; rw [if_neg hm, hl])
      have HOK : Hid (∀ p ∈ l ++ [(s, v)], p.1 < 18446744073709551615) := Lib.hid (fun p hp => by
        rcases List.mem_append.1 hp with hp | hp
        · exact h.ok p hp
        · rw [List.mem_singleton.1 hp]; show s < _; omega)
      have HLN := Lib.hid h.len
      cases A with
      | none =>
        have hl0 : l = [] := by
          by_cases h0 : n = 0
          · exact List.eq_nil_of_length_eq_zero (by rw [h.len, h0])
          · obtain ⟨_, _, e, _⟩ := h.sl.at_ (by omega) (by omega)
            cases e
        have hn0 : n = 0 := by rw [← h.len, hl0]; rfl
        subst hl0; subst hn0
        clear h hm hl
        go_enter Try.func10, Try.ntmps10
        go_wp2_with (first
          | (go_at_call 19; refine HF.out.mono ?_; rintro e w2 ⟨⟨r, rfl, hr⟩, rfl⟩; obtain rfl : r = -1 := (by rcases hr with ⟨h1, _⟩ | ⟨i, v, _, _, _, h4⟩; exact h1; rw [HLL.out] at h4; cases h4); clear hr)
          | (at_builtin; refine wpList_append_own _ rfl _ (.tmp 38) 27 rfl w.heap.size 43 i0 (.agg #[.int .u64 0, .string ⟨#[]⟩]) 2 24 Try.underlying27 hi hz0 hz1 hz2 rfl (by decide) (.slice none 0 0) 0 [] rfl (World.ownsRow_nil _ _ _ _) ⟨w.heap.size, 0, none⟩ 1 1 (kvC (s, v)) rfl rfl (kv_new14 (s, v) rfl) (by simp [kvC, Value.oneCell']) (by unfold maxLen; omega) (by omega) (by simp) ?_; intro v4 w4 o4 g4 _; have O4 := Lib.hid o4; have M4 := Lib.hid (((Mods.refl Nil w).alloc (.cells #[.int .u64 (s : Int), .string (strOf v)] 43)).grown g4 (fun q hq => by cases hq)); clear o4 g4))
        go_ret2
        obtain ⟨A9, c9, rfl, hk, ho⟩ := rks_own (n := 1) (l := [(s, v)]) (by simpa [kvs] using O4.out) rfl (by simpa using HOK.out)
        exact ⟨A9, c9, 1, by rw [HE.out]; rfl, by rw [HL.out]; exact hk, (fun a h => .inr (ho a h)), M4.out⟩
      | some ad =>
        have hx : ∀ j u, (kvs l)[j]? = some u → w.cell? (ad.add j) = some u := fun j u hu => by
          rcases h.sl.has with h0 | ⟨b, off, e, hc⟩
          · rw [h0] at hu; simp at hu
          · injection e with e
            subst e
            rw [Addr.add_lit]
            exact hc j u hu
        have hkl := kvs_length l
        rw [h.len] at hkl
        have HX := Lib.hid hx
        have HKL := Lib.hid hkl
        clear h hm hl hx hkl
        go_enter Try.func10, Try.ntmps10
        go_wp2_with (first
          | (go_at_call 19; refine HF.out.mono ?_; rintro e w2 ⟨⟨r, rfl, hr⟩, rfl⟩; obtain rfl : r = -1 := (by rcases hr with ⟨h1, _⟩ | ⟨i, v, _, _, _, h4⟩; exact h1; rw [HLL.out] at h4; cases h4); clear hr)
          | (at_builtin; have hx := O3.out; clear hx; refine wpList_append_own _ rfl _ (.tmp 38) 27 rfl w.heap.size 43 i0 (.agg #[.int .u64 0, .string ⟨#[]⟩]) 2 24 Try.underlying27 hi hz0 hz1 hz2 rfl (by decide) v3 (0 + n) ([] ++ kvs l) rfl (own_mods O3.out ((Mods.refl Nil w3).alloc _) (fun _ _ h => h)) ⟨w3.heap.size, 0, none⟩ 1 1 (kvC (s, v)) rfl rfl (kv_new14 (s, v) rfl) (by simp [kvC, Value.oneCell']) (by unfold maxLen; omega) (by omega) (by have := M3.out.size; simp; omega) ?_; intro v4 w4 o4 g4 _; have O4 := Lib.hid o4; have M4 := Lib.hid (((Mods.refl (fun q => v3.ownBlock = some q) w3).alloc (.cells #[.int .u64 (s : Int), .string (strOf v)] 43)).grown g4 (fun q hq _ => hq)); clear o4 g4)
          | (at_builtin; refine wpList_append_own _ rfl _ (.tmp 32) 27 rfl w.heap.size 43 i0 (.agg #[.int .u64 0, .string ⟨#[]⟩]) 2 24 Try.underlying27 hi hz0 hz1 hz2 rfl (by decide) (.slice none 0 0) 0 [] rfl (World.ownsRow_nil _ _ _ _) ad n c (kvs l) rfl HKL.out HX.out (kvs_one l) (by unfold maxLen; omega) (by omega) (Nat.le_refl _) ?_; intro v3 w3 o3 g3 _; have O3 := Lib.hid o3; have M3 := Lib.hid ((Mods.refl Nil w).grown g3 (fun q hq => by cases hq)); clear o3 g3))
        go_ret2
        have o4 := O4.out
        simp only [Nat.zero_add, List.nil_append] at o4
        obtain ⟨A9, c9, rfl, hk, ho⟩ := rks_own (n := n + 1) (l := l ++ [(s, v)]) (by rw [kvs_append]; simpa [kvs] using o4) (by simp [HLN.out]) HOK.out
        exact ⟨A9, c9, n + 1, by rw [HE.out]; rfl, by rw [HL.out]; exact hk, (fun a h => .inr (ho a h)), M3.out.nil_trans M4.out (fun q hq => (O3.out.lt q hq).1)⟩
end Go.Proofs.Ytbpflkjodiaokaa
