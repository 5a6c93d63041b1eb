/- The reference of layer 14: slots' values by value; Find, Next, Top, Gaps. -/
import Derived.Test.YtbpflkjodiaokaaLrn0
import Derived.Test.YtbpflkjodiaokaaSlS
import Derived.Test.YtbpflkjodiaokaaMemX
import Derived.Deep.QuietTactic
import Derived.BigQuiet
namespace Go.Proofs.Ytbpflkjodiaokaa
set_option maxRecDepth 100000
open Go.RowKit
set_option linter.unusedVariables false
set_option linter.unusedSimpArgs false

def kvC (p : KV) : List Value := [.int .u64 (p.1 : Int), .string (strOf p.2)]
def kvs (l : List KV) : List Value := l.flatMap kvC
theorem kvs_append (l m : List KV) : kvs (l ++ m) = kvs l ++ kvs m := by simp [kvs]
theorem kvs_length : ∀ (l : List KV), (kvs l).length = l.length * 2
  | [] => rfl
  | x :: l => by
    have := kvs_length l
    simp only [kvs, List.flatMap_cons, List.length_append, List.length_cons] at this ⊢
    rw [this]
    simp [kvC]; omega
theorem kvs_one (l : List KV) : ∀ u ∈ kvs l, u.oneCell' = true := by
  intro u hu
  obtain ⟨x, _, hx⟩ := List.mem_flatMap.1 hu
  simp [kvC] at hx
  rcases hx with rfl | rfl <;> rfl
theorem kvs_at : ∀ (l : List KV) (j : Nat) (h : j < l.length), (kvs l)[j * 2]? = some (.int .u64 (l[j].1 : Int)) ∧ (kvs l)[j * 2 + 1]? = some (.string (strOf l[j].2))
  | x :: l, 0, h => by simp [kvs, kvC]
  | x :: l, j + 1, h => by
    have := kvs_at l j (by simpa using h)
    rw [show (j + 1) * 2 = j * 2 + 2 by omega]
    simp only [kvs, List.flatMap_cons, kvC, List.getElem_cons_succ] at this ⊢
    exact ⟨by simpa using this.1, by simpa using this.2⟩
/-- A slice that reads as slots' values. -/
structure RKs (w : World) (A : Option Addr) (c n : Nat) (l : List KV) : Prop where
  len : l.length = n
  sl : SlS 2 w A c n (kvs l)
  ok : ∀ p ∈ l, p.1 < 18446744073709551615
section
variable {S : Nat → Prop} {w w' : World} {A : Option Addr} {c n : Nat} {l : List KV}
theorem RKs.nil (h : RKs w A c n l) (hm : Mods Nil w w') : RKs w' A c n l := ⟨h.len, h.sl.nilm hm, h.ok⟩
theorem RKs.none_ (w : World) : RKs w none 0 0 [] := ⟨rfl, SlS.none_ _ _, fun p h => by cases h⟩
theorem RKs.cells (h : RKs w A c n l) {j : Nat} {p : KV} (hp : l[j]? = some p) : ∃ b off, A = some ⟨b, off, none⟩ ∧ b < w.heap.size ∧ w.cell? ⟨b, off + j * 2, none⟩ = some (.int .u64 (p.1 : Int)) ∧ w.cell? ⟨b, off + j * 2 + 1, none⟩ = some (.string (strOf p.2)) := by
  obtain ⟨hj, hx⟩ := List.getElem?_eq_some_iff.1 hp
  obtain ⟨b, off, hA, hb, hc⟩ := h.sl.at_ (by rw [← h.len]; omega) (by omega)
  obtain ⟨h0, h1⟩ := kvs_at l j hj
  rw [hx] at h0 h1
  exact ⟨b, off, hA, hb, hc _ _ h0, by rw [Nat.add_assoc]; exact hc _ _ h1⟩
theorem RKs.cell2 {b off : Nat} (h : RKs w (some ⟨b, off, none⟩) c n l) {j : Nat} {p : KV} (hp : l[j]? = some p) : w.cell? ⟨b, off + j * 2, none⟩ = some (.int .u64 (p.1 : Int)) ∧ w.cell? ⟨b, off + j * 2 + 1, none⟩ = some (.string (strOf p.2)) := by
  obtain ⟨b', off', hA, _, h1, h2⟩ := h.cells hp
  injection hA with hA
  injection hA with e1 e2
  subst e1; subst e2
  exact ⟨h1, h2⟩
theorem RKs.top (h : RKs w A c n l) : topL l < 18446744073709551616 := by
  have h0 := h.ok
  clear h
  induction l with
  | nil => simp [topL]
  | cons p l ih =>
    have := ih (fun q hq => h0 q (by simp [hq]))
    have := h0 p (by simp)
    simp [topL]; omega
end
/-- What Find tells. -/
def FindP (l : List KV) (s : Nat) (r : Int) : Prop := (r = -1 ∧ lookL l s = none) ∨ ∃ (i : Nat) (v : List UInt8), r = (i : Int) ∧ i < l.length ∧ l[i]? = some (s, v) ∧ lookL l s = some v
theorem r14find_any (w : World) {A : Option Addr} {c n : Nat} {l : List KV} (h : RKs w A c n l) (hn : n ≤ 1000000) (s : Nat) :
    Calls Try.prog 19 #[.slice A n c, .int .u64 (s : Int)] w fun e w' => (∃ r, e = .returned (.int .i64 r) ∧ FindP l s r) ∧ w = w' := by
  have HH := Lib.hid h
  have HLN := Lib.hid h.len
  clear h
  go_enter Try.func19, Try.ntmps19
  go_wp2
  go_loopw [5] (fun y wr => ∃ j : Nat, y = .int .i64 (j : Int) ∧ j ≤ n ∧ Hid (∀ k, k < j → ∀ p, l[k]? = some p → p.1 ≠ s) ∧ wr = w) (fun y _ => n - (intOf y).toNat)
  case atStart => exact ⟨0, rfl, Nat.zero_le _, Lib.hid (fun k hk => by omega), rfl⟩
  case round =>
    obtain ⟨j, rfl, hj, HNO, rfl⟩ := hrel
    by_cases hlt : j < n
    · have hltI : (j : Int) < (n : Int) := by omega
      have hjl : j < l.length := by rw [HLN.out]; exact hlt
      obtain ⟨p, hp⟩ : ∃ p, l[j]? = some p := ⟨_, List.getElem?_eq_getElem hjl⟩
      obtain ⟨b, off, rfl, hb, z0, z1⟩ := HH.out.cells hp
      have HP := Lib.hid hp
      clear hjl hp z1 hb
      by_cases he : p.1 = s
      · subst he
        go_wp2
        go_ret
        exact ⟨⟨_, rfl, .inr ⟨j, p.2, rfl, by rw [HLN.out]; exact hlt, HP.out, lookL_at HP.out HNO.out⟩⟩, rfl⟩
      · have heI : ((p.1 : Int) == (s : Int)) = false := by simp; omega
        have heN : (p.1 == s) = false := by simp [he]
        have HE := Lib.hid he
        clear he
        go_wp2
        refine ⟨⟨j + 1, by go_num, by omega, Lib.hid (fun k hk q hq => ?_), trivial⟩, by simp [intOf]; omega⟩
        rcases Nat.lt_or_ge k j with h | h
        · exact HNO.out k h q hq
        · obtain rfl : k = j := by omega
          rw [HP.out] at hq
          injection hq with hq
          subst hq
          exact HE.out
    · obtain rfl : n = j := by omega
      go_wp2
      go_ret
      refine ⟨⟨_, rfl, .inl ⟨rfl, lookL_none.2 (fun p hp => ?_)⟩⟩, rfl⟩
      obtain ⟨k, hk⟩ := List.mem_iff_getElem?.1 hp
      have := (List.getElem?_eq_some_iff.1 hk).1
      exact HNO.out k (by rw [← HLN.out]; exact this) p hk
theorem r14next_any (w : World) {A : Option Addr} {c n : Nat} {l : List KV} (h : RKs w A c n l) (hn : n ≤ 1000000) :
    Calls Try.prog 12 #[.slice A n c] w fun e w' => (∃ r : Nat, e = .returned (.int .u64 (r : Int)) ∧ nextP l r ∧ r < 18446744073709551616) ∧ w = w' := by
  have HF := Lib.hid (fun s => r14find_any w h hn s)
  have ht := h.top
  clear h
  go_enter Try.func12, Try.ntmps12
  go_wp2
  go_loopw [3] (fun y wr => ∃ j : Nat, y = .int .u64 (j : Int) ∧ j ≤ topL l ∧ Hid (∀ m, m < j → (lookL l m).isSome = true) ∧ wr = w) (fun y _ => topL l - (intOf y).toNat)
  case atStart => exact ⟨0, rfl, Nat.zero_le _, Lib.hid (fun m hm => by omega), rfl⟩
  case round =>
    obtain ⟨j, rfl, hj, HK, rfl⟩ := hrel
    cases hl : lookL l j with
    | none =>
      have HL := Lib.hid hl
      clear hl
      go_wp2_with (go_at_call 19; refine (HF.out j).mono ?_; rintro e w2 ⟨⟨r, rfl, hr⟩, rfl⟩; obtain rfl : r = -1 := (by rcases hr with ⟨h1, _⟩ | ⟨i, v, _, _, _, h4⟩; exact h1; rw [HL.out] at h4; cases h4); clear hr)
      go_ret
      exact ⟨⟨j, rfl, ⟨HK.out, HL.out⟩, by omega⟩, rfl⟩
    | some v =>
      have hjt := look_top hl
      have HL := Lib.hid hl
      clear hl
      go_wp2_with (go_at_call 19; refine (HF.out j).mono ?_; rintro e w2 ⟨⟨r, rfl, hr⟩, rfl⟩; obtain ⟨i, rfl⟩ : ∃ i : Nat, r = (i : Int) := (by rcases hr with ⟨_, h2⟩ | ⟨i, v, h1, _, _, _⟩; rw [HL.out] at h2; cases h2; exact ⟨i, h1⟩); clear hr)
      refine ⟨⟨j + 1, by go_num, by omega, Lib.hid (fun m hm => ?_), trivial⟩, by simp [intOf]; omega⟩
      rcases Nat.lt_or_ge m j with h | h
      · exact HK.out m h
      · obtain rfl : m = j := by omega
        rw [HL.out]; rfl
end Go.Proofs.Ytbpflkjodiaokaa
