/- The reference of layer 14: Top, Gaps. -/
import Derived.Test.YtbpflkjodiaokaaRef14a
import Derived.Test.YtbpflkjodiaokaaOpen
namespace Go.Proofs.Ytbpflkjodiaokaa
set_option maxRecDepth 100000
open Go.RowKit
set_option linter.unusedVariables false
set_option linter.unusedSimpArgs false
theorem take_kv {l : List KV} {j : Nat} {p : KV} (h : l[j]? = some p) : l.take (j + 1) = l.take j ++ [p] := by
  obtain ⟨hj, e⟩ := List.getElem?_eq_some_iff.1 h
  rw [List.take_succ_eq_append_getElem hj, e]
theorem r14top_any (w : World) {A : Option Addr} {c n : Nat} {l : List KV} (h : RKs w A c n l) (hn : n ≤ 1000000) :
    Calls Try.prog 14 #[.slice A n c] w fun e w' => e = .returned (.int .u64 (topL l : Int)) ∧ w = w' := by
  have HH := Lib.hid h
  have HLN := Lib.hid h.len
  have HOK := Lib.hid h.ok
  clear h
  go_enter Try.func14, Try.ntmps14
  go_wp2
  go_loopw [3, 4] (fun x y wr => ∃ j t : Nat, y = .int .i64 (j : Int) ∧ x = .int .u64 (t : Int) ∧ j ≤ n ∧ Hid (topL (l.take j) = t) ∧ wr = w) (fun _ y _ => n - (intOf y).toNat)
  case atStart => exact ⟨0, 0, rfl, rfl, Nat.zero_le _, Lib.hid rfl, rfl⟩
  case round =>
    obtain ⟨j, t, rfl, rfl, hj, HT, rfl⟩ := hrel
    by_cases hlt : j < n
    · have hltI : (j : Int) < (n : Int) := by omega
      have hjl : j < l.length := by rw [HLN.out]; exact hlt
      obtain ⟨p, hp⟩ : ∃ p, l[j]? = some p := ⟨_, List.getElem?_eq_getElem hjl⟩
      have hpo := HOK.out p (List.mem_of_getElem? hp)
      obtain ⟨b, off, rfl, hb, z0, z1⟩ := HH.out.cells hp
      have HTK := Lib.hid (show topL (l.take (j + 1)) = max t (p.1 + 1) by rw [take_kv hp, topL_snoc, HT.out])
      clear hjl hp z1 hb
      by_cases he : t ≤ p.1
      · have heI : (t : Int) ≤ (p.1 : Int) := by omega
        have heN : decide (t ≤ p.1) = true := by simp; omega
        go_wp2
        refine ⟨⟨j + 1, p.1 + 1, by go_num, by go_num, by omega, Lib.hid ?_, trivial⟩, by simp [intOf]; omega⟩
        rw [HTK.out]
        omega
      · have heI : ¬ (t : Int) ≤ (p.1 : Int) := by omega
        have heN : decide (t ≤ p.1) = false := by simp; omega
        go_wp2
        refine ⟨⟨j + 1, t, by go_num, rfl, by omega, Lib.hid ?_, trivial⟩, by simp [intOf]; omega⟩
        rw [HTK.out]
        omega
    · obtain rfl : n = j := by omega
      go_wp2
      go_ret
      have ht : topL l = t := by rw [← HT.out, List.take_of_length_le (by rw [HLN.out]; exact Nat.le_refl _)]
      exact ⟨by rw [ht]; rfl, rfl⟩
theorem one_new14 (w : World) (v : Value) {t : TypeId} : ∀ j u, [v][j]? = some u → (w.alloc (.cells #[v] t)).cell? ((⟨w.heap.size, 0, none⟩ : Addr).add j) = some u := by
  intro j u hu
  rw [Addr.add_lit, Nat.zero_add, (Blk.new w t #[v]).cell]
  simpa using hu
theorem infoU14 : (Try.prog.info? 29).map (fun i => (i.zero, i.size, i.bytes)) = some (some (.int .u64 0), 1, 8) := by kernel_rfl
theorem own_form14 {w : World} {base n size : Nat} {e : TypeId} {v : Value} {xs : List Value} (h : w.ownsRow base e size v n xs) : ∃ A c, v = .slice A n c := by
  rcases h.2 with ⟨rfl, hx⟩ | ⟨g, cap, cur, rfl, _⟩
  · subst hx; exact ⟨_, _, rfl⟩
  · exact ⟨_, _, rfl⟩
theorem nums_snoc14 (xs : List Nat) (x : Nat) : nums (xs ++ [x]) = nums xs ++ [.int .u64 (x : Int)] := by simp [nums]
/-- A row of numbers that was told. -/
def GapT (w : World) (xs : List Nat) (e : Ending) (w' : World) : Prop := ∃ A c n, e = .returned (.slice A n c) ∧ xs.length = n ∧ Sl w' A c (nums xs) ∧ Mods Nil w w'
set_option maxHeartbeats 1600000 in
theorem r14gaps_any (w : World) {A : Option Addr} {c n : Nat} {l : List KV} (h : RKs w A c n l) (hn : n ≤ 1000000) {most : Int} (hm : most ≤ 100000) :
    Calls Try.prog 17 #[.slice A n c, .int .i64 most] w (GapT w (gapsL l most.toNat)) := by
  obtain ⟨i0, hi, hz0, hz1, hz2⟩ := info_parts infoU14
  have HH := Lib.hid h
  have HF : Hid (∀ (s : Nat) (V : World), Mods Nil w V → Calls Try.prog 19 #[.slice A n c, .int .u64 (s : Int)] V fun e w' => (∃ r, e = .returned (.int .i64 r) ∧ FindP l s r) ∧ V = w') := Lib.hid (fun s V hV => r14find_any V (h.nil hV) hn s)
  have HT : Hid (∀ V, Mods Nil w V → Calls Try.prog 14 #[.slice A n c] V fun e w' => e = .returned (.int .u64 (topL l : Int)) ∧ V = w') := Lib.hid (fun V hV => r14top_any V (h.nil hV) hn)
  have ht := h.top
  obtain ⟨t, htt⟩ : ∃ t, topL l = t := ⟨_, rfl⟩
  rw [htt] at HT ht
  have HTT := Lib.hid htt
  clear h htt
  go_enter Try.func17, Try.ntmps17
  go_wp2
  go_loopw [5, 6] (fun x y wr => ∃ (j k : Nat), y = .int .u64 (j : Int) ∧ j ≤ t ∧ k ≤ most.toNat ∧ Hid ((gapsTo l j).length = k) ∧ Hid (wr.ownsRow w.heap.size 29 1 x k (nums (gapsTo l j))) ∧ Hid (Mods Nil w wr)) (fun _ y _ => t - (intOf y).toNat)
  case atStart => exact ⟨0, 0, rfl, Nat.zero_le _, Nat.zero_le _, Lib.hid rfl, Lib.hid (World.ownsRow_nil _ _ _ _), Lib.hid (Mods.refl _ _)⟩
  case round =>
    obtain ⟨j, k, rfl, hj, hk, HL, HO, HM⟩ := hrel
    obtain ⟨A5, c5, rfl⟩ := own_form14 HO.out
    have HFIN : Hid (t = j ∨ most ≤ (k : Int) → GapT w (gapsL l most.toNat) (.returned (.slice A5 k c5)) wr) := Lib.hid (fun hs => by
      have hg : gapsL l most.toNat = gapsTo l j := gaps_stop (by rw [HTT.out]; exact hj) (by
        rcases hs with hs | hs
        · exact .inl (by rw [HTT.out]; exact hs.symm)
        · exact .inr (by rw [HL.out]; omega)) (by rw [HL.out]; exact hk)
      obtain ⟨A', c', e, _, hsl, _⟩ := own_slice HO.out
      injection e with e1 e2 e3
      subst e1; subst e3
      exact ⟨A5, c5, k, rfl, by rw [hg]; exact HL.out, by rw [hg]; exact hsl, HM.out⟩)
    by_cases hlt : j < t
    · have hltI : (j : Int) < (t : Int) := by omega
      by_cases hkm : (k : Int) < most
      · cases hl : lookL l j with
        | none =>
          have HLL := Lib.hid hl
          have HG : Hid (gapsTo l (j + 1) = gapsTo l j ++ [j]) := Lib.hid (by rw [gapsTo_succ, if_pos hl])
          clear hl
          go_wp2_with (first
            | (go_at_call 14; refine (HT.out _ HM.out).mono ?_; rintro e w2 ⟨rfl, rfl⟩)
            | (go_at_call 19; refine (HF.out j _ HM.out).mono ?_; rintro e w2 ⟨⟨r, rfl, hr⟩, rfl⟩; obtain rfl : r = -1 := (by rcases hr with ⟨h1, _⟩ | ⟨i, v, _, _, _, h4⟩; exact h1; rw [HLL.out] at h4; cases h4); clear hr)
            | (at_builtin; (refine wpList_append_own _ rfl _ _ 22 rfl w.heap.size 29 i0 (.int .u64 0) 1 8 Try.underlying22 hi hz0 hz1 hz2 rfl (by decide) _ _ _ rfl (HO.out.alloc _) ⟨wr.heap.size, 0, none⟩ 1 1 [.int .u64 (j : Int)] rfl rfl (one_new14 _ _) (by simp [Value.oneCell']) (by unfold maxLen; omega) (by omega) (by have := HM.out.size; simp; omega) ?_; intro v' w3 o3 g3 _; have O3 := Lib.hid o3; have M3 := Lib.hid (((Mods.refl (fun q => (Value.slice A5 k c5).ownBlock = some q) wr).alloc (.cells #[.int .u64 (j : Int)] 29)).grown g3 (fun q hq _ => hq)); clear o3 g3)))
          refine ⟨⟨j + 1, k + 1, by go_num, by omega, by omega, Lib.hid (by rw [HG.out]; simp [HL.out]), Lib.hid (by rw [HG.out, nums_snoc14]; exact O3.out), Lib.hid (HM.out.nil_trans M3.out (fun q hq => (HO.out.lt q hq).1))⟩, by simp [intOf]; omega⟩
        | some v =>
          have HLL := Lib.hid hl
          have HG : Hid (gapsTo l (j + 1) = gapsTo l j) := Lib.hid (by rw [gapsTo_succ, if_neg (by rw [hl]; simp)])
          clear hl
          go_wp2_with (first
            | (go_at_call 14; refine (HT.out _ HM.out).mono ?_; rintro e w2 ⟨rfl, rfl⟩)
            | (go_at_call 19; refine (HF.out j _ HM.out).mono ?_; rintro e w2 ⟨⟨r, rfl, hr⟩, rfl⟩; obtain ⟨i, rfl⟩ : ∃ i : Nat, r = (i : Int) := (by rcases hr with ⟨_, h2⟩ | ⟨i, v, h1, _, _, _⟩; rw [HLL.out] at h2; cases h2; exact ⟨i, h1⟩); clear hr))
          exact ⟨⟨j + 1, k, by go_num, by omega, hk, Lib.hid (by rw [HG.out]; exact HL.out), Lib.hid (by rw [HG.out]; exact HO.out), HM⟩, by simp [intOf]; omega⟩
      · have hkmI : ¬ (k : Int) < most := hkm
        have HK := Lib.hid hkm
        go_wp2_with (first
          | (go_at_call 14; refine (HT.out _ HM.out).mono ?_; rintro e w2 ⟨rfl, rfl⟩))
        go_ret
        exact HFIN.out (.inr (by have := HK.out; omega))
    · obtain rfl : t = j := by omega
      go_wp2_with (first
        | (go_at_call 14; refine (HT.out _ HM.out).mono ?_; rintro e w2 ⟨rfl, rfl⟩))
      go_ret
      exact HFIN.out (by simp)
end Go.Proofs.Ytbpflkjodiaokaa
