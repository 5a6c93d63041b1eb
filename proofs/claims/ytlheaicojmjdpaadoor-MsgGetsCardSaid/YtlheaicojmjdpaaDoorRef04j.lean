/- The reference of layer 4: are two messages the same? -/
import Derived.Test.YtlheaicojmjdpaaDoorRef04A
namespace Go.Proofs.YtlheaicojmjdpaaDoor
set_option maxRecDepth 100000
open Go.RowKit
set_option linter.unusedVariables false

theorem ne_cast {a b : Nat} (h : ¬ a = b) : ¬ (a : Int) = (b : Int) := by omega
theorem ne_str {a b : List UInt8} (h : ¬ a = b) : ¬ (strOf a).toList = (strOf b).toList := by rw [strOf_toList, strOf_toList]; exact h

/-- The first field in which two differ. -/
def Far (a b : PM) : Prop :=
  (¬ a.kind = b.kind) ∨ (a.kind = b.kind ∧ ¬ a.ballot = b.ballot) ∨ (a.kind = b.kind ∧ a.ballot = b.ballot ∧ ¬ a.slot = b.slot) ∨
  (a.kind = b.kind ∧ a.ballot = b.ballot ∧ a.slot = b.slot ∧ ¬ a.shard = b.shard) ∨
  (a.kind = b.kind ∧ a.ballot = b.ballot ∧ a.slot = b.slot ∧ a.shard = b.shard ∧ ¬ a.seg = b.seg) ∨
  (a.kind = b.kind ∧ a.ballot = b.ballot ∧ a.slot = b.slot ∧ a.shard = b.shard ∧ a.seg = b.seg ∧ ¬ a.client = b.client) ∨
  (a.kind = b.kind ∧ a.ballot = b.ballot ∧ a.slot = b.slot ∧ a.shard = b.shard ∧ a.seg = b.seg ∧ a.client = b.client ∧ ¬ a.seq = b.seq) ∨
  (a.kind = b.kind ∧ a.ballot = b.ballot ∧ a.slot = b.slot ∧ a.shard = b.shard ∧ a.seg = b.seg ∧ a.client = b.client ∧ a.seq = b.seq ∧ ¬ a.pos = b.pos) ∨
  (a.kind = b.kind ∧ a.ballot = b.ballot ∧ a.slot = b.slot ∧ a.shard = b.shard ∧ a.seg = b.seg ∧ a.client = b.client ∧ a.seq = b.seq ∧ a.pos = b.pos ∧ ¬ a.code = b.code) ∨
  (a.kind = b.kind ∧ a.ballot = b.ballot ∧ a.slot = b.slot ∧ a.shard = b.shard ∧ a.seg = b.seg ∧ a.client = b.client ∧ a.seq = b.seq ∧ a.pos = b.pos ∧ a.code = b.code ∧ ¬ a.body = b.body) ∨
  (a.kind = b.kind ∧ a.ballot = b.ballot ∧ a.slot = b.slot ∧ a.shard = b.shard ∧ a.seg = b.seg ∧ a.client = b.client ∧ a.seq = b.seq ∧ a.pos = b.pos ∧ a.code = b.code ∧ a.body = b.body ∧ ¬ a.vec.length = b.vec.length)
theorem far_or {a b : PM} : Far a b ∨ ∃ v, b = { a with vec := v } ∧ v.length = a.vec.length := by
  by_cases h0 : a.kind = b.kind
  · by_cases h1 : a.ballot = b.ballot
    · by_cases h2 : a.slot = b.slot
      · by_cases h3 : a.shard = b.shard
        · by_cases h4 : a.seg = b.seg
          · by_cases h5 : a.client = b.client
            · by_cases h6 : a.seq = b.seq
              · by_cases h7 : a.pos = b.pos
                · by_cases h8 : a.code = b.code
                  · by_cases h10 : a.body = b.body
                    · by_cases h9 : a.vec.length = b.vec.length
                      · refine .inr ⟨b.vec, ?_, h9.symm⟩
                        obtain ⟨a0, a1, a2, a3, a4, a5, a6, a7, a8, a9, a10⟩ := a
                        obtain ⟨b0, b1, b2, b3, b4, b5, b6, b7, b8, b9, b10⟩ := b
                        dsimp only at *
                        subst h0 h1 h2 h3 h4 h5 h6 h7 h8 h10
                        rfl
                      · exact .inl (by simp [Far, h0, h1, h2, h3, h4, h5, h6, h7, h8, h9, h10])
                    · exact .inl (by simp [Far, h0, h1, h2, h3, h4, h5, h6, h7, h8, h10])
                  · exact .inl (by simp [Far, h0, h1, h2, h3, h4, h5, h6, h7, h8])
                · exact .inl (by simp [Far, h0, h1, h2, h3, h4, h5, h6, h7])
              · exact .inl (by simp [Far, h0, h1, h2, h3, h4, h5, h6])
            · exact .inl (by simp [Far, h0, h1, h2, h3, h4, h5])
          · exact .inl (by simp [Far, h0, h1, h2, h3, h4])
        · exact .inl (by simp [Far, h0, h1, h2, h3])
      · exact .inl (by simp [Far, h0, h1, h2])
    · exact .inl (by simp [Far, h0, h1])
  · exact .inl (.inl h0)
theorem far_ne {a b : PM} (h : Far a b) : a ≠ b := by
  rintro rfl
  simp [Far] at h

set_option maxHeartbeats 8000000 in
theorem rsame_far {w : World} {a b : PM} {A B : Option Addr} {c d : Nat} (h : Far a b) :
    Calls Tryd.prog 13 #[.agg (RC a A c), .agg (RC b B d)] w fun e w' => e = .returned (.bool false) ∧ Mods Nil w w' := by
  obtain ⟨a0, a1, a2, a3, a4, a5, a6, a7, a8, a9, a10⟩ := a
  obtain ⟨b0, b1, b2, b3, b4, b5, b6, b7, b8, b9, b10⟩ := b
  have mA := (Mods.refl Nil w).alloc (.cells (RC ⟨a0, a1, a2, a3, a4, a5, a6, a7, a8, a9, a10⟩ A c) 36)
  have bA := (Blk.new w 36 (RC ⟨a0, a1, a2, a3, a4, a5, a6, a7, a8, a9, a10⟩ A c)).alloc (.cells (RC ⟨b0, b1, b2, b3, b4, b5, b6, b7, b8, b9, b10⟩ B d) 36)
  have bB := Blk.new (w.alloc (.cells (RC ⟨a0, a1, a2, a3, a4, a5, a6, a7, a8, a9, a10⟩ A c) 36)) 36 (RC ⟨b0, b1, b2, b3, b4, b5, b6, b7, b8, b9, b10⟩ B d)
  rw [show (w.alloc (.cells (RC ⟨a0, a1, a2, a3, a4, a5, a6, a7, a8, a9, a10⟩ A c) 36)).heap.size = w.heap.size + 1 from by simp] at bB
  have MM := Lib.hid (mA.alloc (.cells (RC ⟨b0, b1, b2, b3, b4, b5, b6, b7, b8, b9, b10⟩ B d) 36))
  obtain ⟨c0, c1, c2, c3, c4, c5, c6, c7, c8, c9, c10⟩ := bA.rc
  obtain ⟨d0, d1, d2, d3, d4, d5, d6, d7, d8, d9, d10⟩ := bB.rc
  unfold Far at h
  dsimp only at h c0 c1 c2 c3 c4 c5 c6 c7 c8 c9 c10 d0 d1 d2 d3 d4 d5 d6 d7 d8 d9 d10
  clear mA bA bB
  have ks1 := strOf_toList a10
  have ks2 := strOf_toList b10
  rcases h with h | ⟨rfl, h⟩ | ⟨rfl, rfl, h⟩ | ⟨rfl, rfl, rfl, h⟩ | ⟨rfl, rfl, rfl, rfl, h⟩ | ⟨rfl, rfl, rfl, rfl, rfl, h⟩ | ⟨rfl, rfl, rfl, rfl, rfl, rfl, h⟩ | ⟨rfl, rfl, rfl, rfl, rfl, rfl, rfl, h⟩ | ⟨rfl, rfl, rfl, rfl, rfl, rfl, rfl, rfl, h⟩ | ⟨rfl, rfl, rfl, rfl, rfl, rfl, rfl, rfl, rfl, h⟩ | ⟨rfl, rfl, rfl, rfl, rfl, rfl, rfl, rfl, rfl, rfl, h⟩
  rotate_left 10
  · have hl : ((a9.length : Int) != (b9.length : Int)) = true := by simp; omega
    go_enter Tryd.func13, Tryd.ntmps13
    go_wp2
    go_ret
    exact ⟨rfl, MM.out⟩
  all_goals
    go_enter Tryd.func13, Tryd.ntmps13
    go_wp2
    go_ret
    exact ⟨rfl, MM.out⟩

theorem take_snoc {l k : List Nat} {j : Nat} (h : l.take j = k.take j) (h1 : j < l.length) (h2 : j < k.length) (he : l[j] = k[j]) : l.take (j + 1) = k.take (j + 1) := by
  rw [List.take_add_one, List.take_add_one, List.getElem?_eq_getElem h1, List.getElem?_eq_getElem h2, h, he]

set_option maxHeartbeats 8000000 in
theorem rsame_len {w : World} {a : PM} {v : List Nat} {A B : Option Addr} {c d : Nat} (hv : v.length = a.vec.length) (hs : Sl w A c (nums a.vec)) (ht : Sl w B d (nums v)) :
    Calls Tryd.prog 13 #[.agg (RC a A c), .agg (RC { a with vec := v } B d)] w fun e w' => e = .returned (.bool (decide (a.vec = v))) ∧ Mods Nil w w' := by
  obtain ⟨a0, a1, a2, a3, a4, a5, a6, a7, a8, a9, a10⟩ := a
  have mA := (Mods.refl Nil w).alloc (.cells (RC ⟨a0, a1, a2, a3, a4, a5, a6, a7, a8, a9, a10⟩ A c) 36)
  have bA := (Blk.new w 36 (RC ⟨a0, a1, a2, a3, a4, a5, a6, a7, a8, a9, a10⟩ A c)).alloc (.cells (RC ⟨a0, a1, a2, a3, a4, a5, a6, a7, a8, v, a10⟩ B d) 36)
  have bB := Blk.new (w.alloc (.cells (RC ⟨a0, a1, a2, a3, a4, a5, a6, a7, a8, a9, a10⟩ A c) 36)) 36 (RC ⟨a0, a1, a2, a3, a4, a5, a6, a7, a8, v, a10⟩ B d)
  rw [show (w.alloc (.cells (RC ⟨a0, a1, a2, a3, a4, a5, a6, a7, a8, a9, a10⟩ A c) 36)).heap.size = w.heap.size + 1 from by simp] at bB
  have mB := mA.alloc (.cells (RC ⟨a0, a1, a2, a3, a4, a5, a6, a7, a8, v, a10⟩ B d) 36)
  have MM := Lib.hid mB
  have HS := Lib.hid (hs.mods mB (fun _ _ h => h))
  have HT := Lib.hid (ht.mods mB (fun _ _ h => h))
  have BA := Lib.hid bA
  have BB := Lib.hid bB
  obtain ⟨n, hn⟩ : ∃ n, a9.length = n := ⟨_, rfl⟩
  obtain ⟨c0, c1, c2, c3, c4, c5, c6, c7, c8, c9, c10⟩ := bA.rc
  obtain ⟨d0, d1, d2, d3, d4, d5, d6, d7, d8, d9, d10⟩ := bB.rc
  dsimp only at hv hs ht c0 c1 c2 c3 c4 c5 c6 c7 c8 c9 c10 d0 d1 d2 d3 d4 d5 d6 d7 d8 d9 d10 ⊢
  rw [hn] at c9 hv
  rw [hv] at d9
  have hmx : n ≤ 9223372036854775807 := by have := hs.max; have := hs.le; rw [nums_length', hn] at this; unfold maxLen at *; omega
  have HN := Lib.hid hn
  have HV := Lib.hid hv
  clear mA mB bA bB hn hv hs ht
  have ks1 := strOf_toList a10
  go_enter Tryd.func13, Tryd.ntmps13
  go_wp2_with fail
  obtain ⟨W2, hW2⟩ : ∃ W2, (w.alloc (.cells (RC ⟨a0, a1, a2, a3, a4, a5, a6, a7, a8, a9, a10⟩ A c) 36)).alloc (.cells (RC ⟨a0, a1, a2, a3, a4, a5, a6, a7, a8, v, a10⟩ B d) 36) = W2 := ⟨_, rfl⟩
  rw [hW2] at MM HS HT BA BB ⊢
  have HW2 := Lib.hid hW2
  clear hW2 c0 c1 c2 c3 c4 c5 c6 c7 c8 c9 c10 d0 d1 d2 d3 d4 d5 d6 d7 d8 d9 d10 ks1
  go_loopw [5] (fun i wr => ∃ j : Nat, j ≤ n ∧ i = .int .i64 j ∧ Mods Nil W2 wr ∧ a9.take j = v.take j) (fun i _ => n - (intOf i).toNat)
  case atStart => exact ⟨0, by omega, rfl, Mods.refl _ _, by simp⟩
  case round =>
    obtain ⟨j, hj, rfl, hm, hq⟩ := hrel
    have c9 := (BA.out.mods hm (fun h => h)).rc.2.2.2.2.2.2.2.2.2.1
    have d9 := (BB.out.mods hm (fun h => h)).rc.2.2.2.2.2.2.2.2.2.1
    have SA := Lib.hid (HS.out.mods hm (fun _ _ h => h))
    have SB := Lib.hid (HT.out.mods hm (fun _ _ h => h))
    dsimp only at c9 d9
    rw [HN.out] at c9
    rw [HV.out] at d9
    have HM := Lib.hid hm
    have HQ := Lib.hid hq
    clear hm hq
    by_cases hlt : j < n
    · have hltI : (j : Int) < (n : Int) := by omega
      have hja : j < a9.length := by rw [HN.out]; exact hlt
      have hjv : j < v.length := by rw [HV.out]; exact hlt
      obtain ⟨ba, oa, ea, hba, hca⟩ := SA.out.at_ (by rw [nums_length']; omega)
      obtain ⟨bb, ob, eb, hbb, hcb⟩ := SB.out.at_ (by rw [nums_length']; omega)
      have f1 := hca j _ (nums_get' a9 j hja)
      have f2 := hcb j _ (nums_get' v j hjv)
      rw [ea] at c9
      rw [eb] at d9
      obtain ⟨x, hx⟩ : ∃ x, a9[j] = x := ⟨_, rfl⟩
      obtain ⟨y, hy⟩ : ∃ y, v[j] = y := ⟨_, rfl⟩
      rw [hx] at f1
      rw [hy] at f2
      have HX := Lib.hid hx
      have HY := Lib.hid hy
      have HA := Lib.hid hja
      have HB := Lib.hid hjv
      clear hca hcb hx hy ea eb
      by_cases hxy : x = y
      · subst hxy
        have HQ2 := Lib.hid (take_snoc HQ.out HA.out HB.out (HX.out.trans HY.out.symm))
        go_wp2_with fail
        go_quiet (fail)
        go_wp2_with fail
        exact ⟨⟨j + 1, by omega, by go_num, HM.out.drewN _, HQ2.out⟩, by simp [intOf]; omega⟩
      · have hne : ((x : Int) != (y : Int)) = true := by simp; omega
        go_wp2_with fail
        go_quiet (fail)
        go_wp2_with fail
        go_ret
        have hno : ¬ a9 = v := by
          intro e
          have h1 := HX.out
          have h2 := HY.out
          subst e
          exact hxy (h1.symm.trans h2)
        exact ⟨by rw [decide_eq_false hno]; rfl, (MM.out.trans HM.out).drewN _⟩
    · obtain rfl : j = n := by omega
      have hall : a9 = v := by
        have := HQ.out
        rwa [List.take_of_length_le (Nat.le_of_eq HN.out), List.take_of_length_le (Nat.le_of_eq HV.out)] at this
      have HALL := Lib.hid hall
      clear hall
      go_wp2_with fail
      go_ret
      exact ⟨by rw [decide_eq_true HALL.out]; rfl, MM.out.trans HM.out⟩

/-- Are two the same? -/
theorem rsame_any {w : World} {a b : PM} {A B : Option Addr} {c d : Nat} (hs : Sl w A c (nums a.vec)) (ht : Sl w B d (nums b.vec)) :
    Calls Tryd.prog 13 #[.agg (RC a A c), .agg (RC b B d)] w fun e w' => (∃ r : Bool, e = .returned (.bool r) ∧ (r = true ↔ a = b)) ∧ Mods Nil w w' := by
  rcases far_or (a := a) (b := b) with h | ⟨v, rfl, hv⟩
  · refine (rsame_far h).mono ?_
    rintro e w' ⟨rfl, hm⟩
    exact ⟨⟨false, rfl, by simp [far_ne h]⟩, hm⟩
  · refine (rsame_len hv hs ht).mono ?_
    rintro e w' ⟨rfl, hm⟩
    refine ⟨⟨_, rfl, ?_⟩, hm⟩
    rw [decide_eq_true_eq]
    constructor
    · intro h; subst h; rfl
    · intro h; exact congrArg PM.vec h
theorem rsame_yes {w : World} {a : PM} {A B : Option Addr} {c d : Nat} (hs : Sl w A c (nums a.vec)) (ht : Sl w B d (nums a.vec)) :
    Calls Tryd.prog 13 #[.agg (RC a A c), .agg (RC a B d)] w fun e w' => e = .returned (.bool true) ∧ Mods Nil w w' := by
  refine (rsame_any hs ht).mono ?_
  rintro e w' ⟨⟨r, rfl, h⟩, hm⟩
  exact ⟨by rw [h.2 rfl], hm⟩
end Go.Proofs.YtlheaicojmjdpaaDoor
