/- What follows of commands in plain terms: what is put is got, what is got is put as the same bytes; cut, or with bytes behind it, it is none. -/
import Derived.Test.YtkodmgnagfolpaaConf0
namespace Go.Proofs.Ytkodmgnagfolpaa
set_option maxRecDepth 100000
set_option linter.unusedVariables false
set_option linter.unusedSimpArgs false

theorem opB_range {c : PC} (h : opB c = true) : 0 ≤ c.op ∧ c.op ≤ 4 := by
  unfold opB at h
  split at h
  · omega
  split at h
  · omega
  split at h
  · omega
  split at h
  · omega
  split at h
  · omega
  simp at h
theorem rowS_of {c : PC} (hok : c.ok) (h : rowsB c.rows (-1) = true) : ∀ r ∈ c.rows, rowS r := fun r hr => by
  have h1 := rowsB_each c.rows (-1) h r hr
  exact ⟨by omega, h1.2.1, h1.2.2, (hok.rows r hr).lens⟩
theorem rowsN_lt : ∀ (l : List PW), (∀ r ∈ l, rowS r) → ∀ x ∈ rowsN l, x < 18446744073709551616
  | [], _, x, h => by simp [rowsN] at h
  | r :: l, hl, x, h => by
    obtain ⟨h0, h7, h4, h64⟩ := hl r List.mem_cons_self
    simp only [rowsN, rowN, List.cons_append, List.mem_cons, List.mem_append] at h
    rcases h with h | h | h | h
    · omega
    · omega
    · exact h64 x h
    · exact rowsN_lt l (fun q hq => hl q (List.mem_cons_of_mem _ hq)) x h
theorem bodyN_lt {c : PC} (hok : c.ok) (h : chkC c = 0) : ∀ x ∈ bodyN c, x < 18446744073709551616 := by
  obtain ⟨hr, ho⟩ := chkC_zero.1 h
  have h1 := hok.client; have h2 := hok.seq; have h3 := hok.pos
  have h4 := hok.shard; have h5 := hok.segs; have h6 := hok.len
  have h7 := rowsN_lt c.rows (rowS_of hok hr)
  intro x hx
  unfold bodyN at hx
  split at hx
  · simp only [List.mem_cons, List.not_mem_nil, or_false] at hx
    rcases hx with h | h | h | h <;> omega
  split at hx
  · simp only [List.mem_cons] at hx
    rcases hx with h | h | h | h | h
    · omega
    · omega
    · omega
    · omega
    · exact h7 x h
  split at hx
  · simp only [List.mem_cons, List.not_mem_nil, or_false] at hx
    rcases hx with h | h | h <;> omega
  split at hx
  · simp only [List.mem_cons] at hx
    rcases hx with h | h
    · omega
    · exact h7 x h
  simp at hx
/-- A command that may be is what its numbers say. -/
theorem tree_of {c : PC} (hok : c.ok) (h : chkC c = 0) : (tree c.op.toNat).walk (bodyN c) = some c := by
  obtain ⟨hr, ho⟩ := chkC_zero.1 h
  have hg := opB_range ho
  have h1 := hok.client; have h2 := hok.seq; have h3 := hok.pos
  have h8 := rowsB_8 hr
  have hS := rowS_of hok hr
  obtain ⟨op, client, seq, shard, segs, pos, rows⟩ := c
  dsimp only at *
  obtain h | h | h | h | h : op = 0 ∨ op = 1 ∨ op = 2 ∨ op = 3 ∨ op = 4 := by omega
  · subst h
    simp only [opB, if_true, decide_eq_true_eq, List.length_eq_zero_iff] at ho
    obtain ⟨rfl, rfl, rfl, rfl, rfl, rfl⟩ := ho
    rfl
  · subst h
    simp [opB] at ho
    obtain ⟨o1, o2, o3, o4, rfl, rfl⟩ := ho
    obtain ⟨s, rfl⟩ : ∃ s : Nat, shard = s := ⟨shard.toNat, by omega⟩
    obtain ⟨k, rfl⟩ : ∃ s : Nat, segs = s := ⟨segs.toNat, by omega⟩
    simp only [tree, bodyN, Int.toNat_natCast, show (1 : Int).toNat = 1 from rfl, if_true, NT.walk]
    rw [if_neg (by omega), if_neg (by omega), if_neg (by omega), if_neg (by omega)]
  · subst h
    simp [opB] at ho
    obtain ⟨o1, o2, rfl, rfl, o5⟩ := ho
    obtain ⟨s, rfl⟩ : ∃ s : Nat, shard = s := ⟨shard.toNat, by omega⟩
    simp only [tree, bodyN, Int.toNat_natCast, show (2 : Int).toNat = 2 from rfl, if_true, NT.walk, show ¬ (2 : Nat) = 1 by omega, show ¬ (2 : Int) = 1 by omega, if_false]
    rw [if_neg (by omega), if_neg (by omega), if_neg (by omega)]
    refine (allT_walk _ _ _).2 ⟨rows, [], h8, by simp, hS, ?_⟩
    rfl
  · subst h
    simp [opB] at ho
    obtain ⟨rfl, rfl, rfl⟩ := ho
    simp only [tree, bodyN, show (3 : Int).toNat = 3 from rfl, if_true, NT.walk, show ¬ (3 : Nat) = 1 by omega, show ¬ (3 : Int) = 1 by omega, show ¬ (3 : Nat) = 2 by omega, show ¬ (3 : Int) = 2 by omega, if_false]
    rw [if_neg (by omega), if_neg (by omega), if_neg (by omega)]
  · subst h
    simp [opB] at ho
    obtain ⟨rfl, rfl, rfl, rfl, rfl⟩ := ho
    simp only [tree, bodyN, show (4 : Int).toNat = 4 from rfl, if_true, show ¬ (4 : Nat) = 1 by omega, show ¬ (4 : Int) = 1 by omega, show ¬ (4 : Nat) = 2 by omega, show ¬ (4 : Int) = 2 by omega, show ¬ (4 : Nat) = 3 by omega, show ¬ (4 : Int) = 3 by omega, if_false]
    refine (allT_walk _ _ _).2 ⟨rows, [], h8, by simp, hS, ?_⟩
    rfl
/-- What the numbers say has those numbers. -/
theorem tree_to {op : Nat} (hop : op ≤ 4) {L : List Nat} {c : PC} (h : (tree op).walk L = some c) : L = bodyN c ∧ c.op = op ∧ ((∀ x ∈ L, x < 18446744073709551616) → c.ok) := by
  obtain e | e | e | e | e : op = 0 ∨ op = 1 ∨ op = 2 ∨ op = 3 ∨ op = 4 := by omega
  · subst e
    simp [tree, NT.walk] at h
    obtain ⟨rfl, rfl⟩ := h
    exact ⟨rfl, rfl, fun _ => ⟨by simp, by simp, by simp, by simp, by simp, by simp, by simp, by simp⟩⟩
  · subst e
    match L, h with
    | [], h => simp [tree, NT.walk] at h
    | [a], h => simp [tree, NT.walk] at h
    | [a, b], h => simp [tree, NT.walk] at h
    | [a, b, s], h => simp [tree, NT.walk] at h
    | a :: b :: s :: k :: L, h =>
      simp [tree, NT.walk] at h
      obtain ⟨h1, h2, h3, h4, rfl, rfl⟩ := h
      refine ⟨rfl, rfl, fun hb => ⟨by simp, ?_, ?_, ?_, ?_, by simp, by simp, by simp⟩⟩
      · exact hb a (by simp)
      · exact hb b (by simp)
      · dsimp only; omega
      · dsimp only; omega
  · subst e
    match L, h with
    | [], h => simp [tree, NT.walk] at h
    | [a], h => simp [tree, NT.walk] at h
    | [a, b], h => simp [tree, NT.walk] at h
    | a :: b :: s :: L, h =>
      simp only [tree, NT.walk, if_true, show ¬ (2 : Nat) = 1 by omega, if_false] at h
      split at h
      · simp at h
      split at h
      · simp at h
      split at h
      · simp at h
      obtain ⟨l, L', hl, rfl, hS, hw⟩ := (allT_walk _ _ _).1 h
      simp [NT.walk] at hw
      obtain ⟨rfl, rfl⟩ := hw
      refine ⟨by simp [bodyN], rfl, fun hb => ⟨by simp, ?_, ?_, ?_, by simp, by simp, ?_, ?_⟩⟩
      · exact hb a (by simp)
      · exact hb b (by simp)
      · dsimp only; omega
      · intro r hr; obtain ⟨g0, g7, g4, g64⟩ := hS r hr; exact ⟨by omega, g64, by omega⟩
      · dsimp only; omega
  · subst e
    match L, h with
    | [], h => simp [tree, NT.walk] at h
    | [a], h => simp [tree, NT.walk] at h
    | [a, b], h => simp [tree, NT.walk] at h
    | a :: b :: p :: L, h =>
      simp [tree, NT.walk] at h
      obtain ⟨h1, h2, h3, rfl, rfl⟩ := h
      refine ⟨rfl, rfl, fun hb => ⟨by simp, ?_, ?_, by simp, by simp, ?_, by simp, by simp⟩⟩
      · exact hb a (by simp)
      · exact hb b (by simp)
      · exact hb p (by simp)
  · subst e
    simp only [tree, if_true, show ¬ (4 : Nat) = 1 by omega, show ¬ (4 : Nat) = 2 by omega, show ¬ (4 : Nat) = 3 by omega, if_false] at h
    obtain ⟨l, L', hl, rfl, hS, hw⟩ := (allT_walk _ _ _).1 h
    simp [NT.walk] at hw
    obtain ⟨rfl, rfl⟩ := hw
    refine ⟨by simp [bodyN], rfl, fun hb => ⟨by simp, by simp, by simp, by simp, by simp, by simp, ?_, ?_⟩⟩
    · intro r hr; obtain ⟨g0, g7, g4, g64⟩ := hS r hr; exact ⟨by omega, g64, by omega⟩
    · dsimp only; omega
theorem kbC_toNat {k : Int} (h0 : 0 ≤ k) (h : k ≤ 4) : (kbC k).toNat = k.toNat := by unfold kbC; simp; omega
/-- What is put is got, bytes behind it are left. -/
theorem gT_put {c : PC} (hok : c.ok) (h : chkC c = 0) (r : List UInt8) : gT (putC c ++ r) = (0, r, c) := by
  obtain ⟨hr, ho⟩ := chkC_zero.1 h
  have hg := opB_range ho
  simp only [gT, putC, List.cons_append, List.headD_cons, List.drop_one, List.tail_cons]
  rw [kbC_toNat hg.1 hg.2]
  exact walk_run _ _ r c (tree_of hok h) (bodyN_lt hok h)
theorem get_put {c : PC} (hok : c.ok) (h : chkC c = 0) : gE (putC c) = 0 ∧ gC (putC c) = c := by
  have hT := gT_put hok h []
  rw [List.append_nil] at hT
  have hg := opB_range (chkC_zero.1 h).2
  have h1 : gE (putC c) = 0 := by
    unfold gE
    rw [hT, if_neg (by simp [putC]), if_neg (by simp only [putC, List.headD_cons]; rw [kbC_toNat hg.1 hg.2]; omega)]
    simp [h]
  refine ⟨h1, ?_⟩
  unfold gC
  rw [if_pos h1, hT]
theorem get_more {c : PC} (hok : c.ok) (h : chkC c = 0) {r : List UInt8} (hr : r ≠ []) : gE (putC c ++ r) = 12 := by
  have hT := gT_put hok h r
  have hg := opB_range (chkC_zero.1 h).2
  unfold gE
  rw [hT, if_neg (by simp [putC]), if_neg (by simp only [putC, List.cons_append, List.headD_cons]; rw [kbC_toNat hg.1 hg.2]; omega)]
  simp [hr]
/-- What is got may be, and is put as the same bytes. -/
theorem put_get {xs : List UInt8} (h : gE xs = 0) : putC (gC xs) = xs ∧ chkC (gC xs) = 0 ∧ (gC xs).ok ∧ xs ≠ [] := by
  have hC : gC xs = (gT xs).2.2 := by unfold gC; rw [if_pos h]
  unfold gE at h
  split at h
  · simp at h
  rename_i h0
  split at h
  · simp at h
  rename_i h4
  split at h
  · rename_i h1; exact absurd h h1
  rename_i h1
  split at h
  · simp at h
  rename_i h2
  split at h
  · simp at h
  rename_i h3
  obtain ⟨c, hc⟩ : ∃ c, (gT xs).2.2 = c := ⟨_, rfl⟩
  have hT : gT xs = (0, [], c) := Prod.ext (Classical.not_not.1 h1) (Prod.ext (Classical.not_not.1 h2) hc)
  rw [hC, hc]
  rw [hc] at h3
  obtain ⟨L, e, hw, hb⟩ := run_walk _ _ _ _ hT
  obtain ⟨e1, e2, hok⟩ := tree_to (by omega) hw
  refine ⟨?_, Classical.not_not.1 h3, hok hb, h0⟩
  cases xs with
  | nil => exact absurd rfl h0
  | cons x xs =>
    simp only [List.headD_cons, List.drop_one, List.tail_cons, List.append_nil] at e e2
    unfold putC
    rw [← e1, ← e, e2]
    congr 1
    apply UInt8.toNat_inj.1
    simp [kbC]
theorem get_cut {xs : List UInt8} (h : gE xs = 0) {k : Nat} (hk : k < xs.length) : gE (xs.take k) = 10 := by
  obtain ⟨e, hc, hok, hne⟩ := put_get h
  obtain ⟨c, hC⟩ : ∃ c, gC xs = c := ⟨_, rfl⟩
  rw [hC] at e hc hok
  subst e
  have hg := opB_range (chkC_zero.1 hc).2
  cases k with
  | zero => simp [gE]
  | succ k =>
    have hk' : k < (putAll (bodyN c)).length := by simpa [putC] using hk
    have h1 := walk_cut _ _ k c (tree_of hok hc) (bodyN_lt hok hc) hk'
    have hT : (gT ((putC c).take (k + 1))).1 = 10 := by
      simp only [gT, putC, List.take_succ_cons, List.headD_cons, List.drop_one, List.tail_cons]
      rw [kbC_toNat hg.1 hg.2]
      exact h1
    unfold gE
    rw [if_neg (by simp [putC]), if_neg (by simp only [putC, List.take_succ_cons, List.headD_cons]; rw [kbC_toNat hg.1 hg.2]; omega), if_pos (by rw [hT]; decide), hT]
theorem put_inj {a b : PC} (ha : a.ok) (hb : b.ok) (ca : chkC a = 0) (cb : chkC b = 0) : putC a = putC b ↔ a = b := by
  constructor
  · intro h
    have h1 := (get_put ha ca).2
    have h2 := (get_put hb cb).2
    rw [h] at h1
    exact h1.symm.trans h2
  · rintro rfl; rfl
theorem get_op {x : UInt8} {xs : List UInt8} (h : 4 < x.toNat) : gE (x :: xs) = 11 := by
  unfold gE
  rw [if_neg (by simp), if_pos (by simpa using h)]
end Go.Proofs.Ytkodmgnagfolpaa
