/- Texts laid as one: Plain1, Plain2. -/
import Derived.Test.YtpabbhhaagfoeaaNumsM

section
/- Plain facts on numbers as bytes. -/
namespace Go.Proofs.Ytpabbhhaagfoeaa
set_option maxRecDepth 100000

theorem digs_ne_nil {x : Nat} (h : x ≠ 0) : digs x ≠ [] := by rw [digs_pos h]; simp
theorem digs_valOf : ∀ (n : Nat) (l : List UInt8), l.length = n → l.head? ≠ some 0 → digs (valOf l) = l := by
  intro n
  induction n with
  | zero => intro l h _; obtain rfl : l = [] := List.eq_nil_of_length_eq_zero h; exact digs_zero
  | succ n ih =>
    intro l h hh
    have e : l = l.take n ++ [l[n]'(by omega)] := by rw [← List.take_succ_eq_append_getElem (by omega), List.take_of_length_le (by omega)]
    generalize hb : l[n]'(by omega) = b at e
    generalize hm : l.take n = m at e
    have hml : m.length = n := by rw [← hm]; simp; omega
    subst e
    rw [valOf_snoc]
    have hb256 := b.toNat_lt
    have e1 : (valOf m * 256 + b.toNat) / 256 = valOf m := by omega
    have e2 : UInt8.ofNat ((valOf m * 256 + b.toNat) % 256) = b := by rw [show (valOf m * 256 + b.toNat) % 256 = b.toNat by omega]; simp
    have hm0 : m.head? ≠ some 0 := by
      intro hx
      cases m with
      | nil => simp at hx
      | cons a m' => exact hh (by simpa using hx)
    have hne : valOf m * 256 + b.toNat ≠ 0 := by
      by_cases hmn : m = []
      · subst hmn
        intro h0
        apply hh
        have : b.toNat = 0 := by omega
        have : b = 0 := UInt8.toNat_inj.1 (by simpa using this)
        simp [this]
      · have : valOf m ≠ 0 := by
          intro h0
          have := ih m hml hm0
          rw [h0, digs_zero] at this
          exact hmn this.symm
        omega
    rw [digs_pos hne, e1, e2, ih m hml hm0]
theorem valOf_digs (x : Nat) : valOf (digs x) = x := by
  induction x using Nat.strongRecOn with
  | ind x ih =>
    by_cases h : x = 0
    · subst h; rw [digs_zero]; rfl
    · rw [digs_pos h, valOf_snoc, ih (x / 256) (by omega)]
      have : (UInt8.ofNat (x % 256)).toNat = x % 256 := by simp
      omega
theorem digs_head (x : Nat) : (digs x).head? ≠ some 0 := by
  induction x using Nat.strongRecOn with
  | ind x ih =>
    by_cases h : x = 0
    · subst h; rw [digs_zero]; simp
    · rw [digs_pos h]
      by_cases h2 : x / 256 = 0
      · rw [h2, digs_zero]
        simp
        intro hx
        have := congrArg UInt8.toNat hx
        simp at this
        omega
      · have := ih (x / 256) (by omega)
        have hne := digs_ne_nil h2
        generalize digs (x / 256) = l at this hne
        cases l with
        | nil => exact absurd rfl hne
        | cons a l => simpa using this
theorem digs_le8 {x : Nat} (hx : x < 18446744073709551616) : (digs x).length ≤ 8 := by
  have := putU_length x hx
  simp [putU] at this
  omega

/-- What is read of what was put. -/
theorem numErr_put {x : Nat} (hx : x < 18446744073709551616) (r : List UInt8) : numErr (putU x ++ r) = 0 := by
  have h8 := digs_le8 hx
  have hl : (UInt8.ofNat (digs x).length).toNat = (digs x).length := by simp; omega
  unfold putU
  have hh := digs_head x
  rcases hd : digs x with _ | ⟨d, t⟩
  · exact numErr_zero (by rfl)
  · rw [hd] at hl h8 hh
    simp only [List.cons_append]
    refine numErr_ok ?_ ?_ ?_
    · rw [hl]; omega
    · rw [hl]; simp
    · intro h0
      apply hh
      have : d = 0 := UInt8.toNat_inj.1 (by simpa using h0)
      simp [this]
theorem readUint_put {x : Nat} (hx : x < 18446744073709551616) (r : List UInt8) : readUint 0 (putU x ++ r) = (0, r, x) := by
  have h8 := digs_le8 hx
  have hl : (UInt8.ofNat (digs x).length).toNat = (digs x).length := by simp; omega
  unfold readUint
  rw [if_neg (by simp), if_neg (by simp [numErr_put hx])]
  unfold putU
  simp only [List.cons_append, List.headD_cons, List.drop_succ_cons, List.drop_zero, hl]
  rw [Nat.add_comm, List.drop_succ_cons, List.drop_left, List.take_left, valOf_digs]
/-- What is read is put as it was read. -/
theorem put_readUint {xs ys : List UInt8} {x : Nat} (h : readUint 0 xs = (0, ys, x)) : xs = putU x ++ ys := by
  unfold readUint at h
  rw [if_neg (by simp)] at h
  by_cases hn : numErr xs = 0
  · rw [if_neg (by simp [hn])] at h
    obtain ⟨c, r, rfl, h8, hs⟩ := numErr_zero_inv hn
    simp only [List.headD_cons, List.drop_succ_cons, List.drop_zero, Prod.mk.injEq, true_and] at h
    obtain ⟨rfl, rfl⟩ := h
    have hh : (r.take c.toNat).head? ≠ some 0 := by
      intro hx
      rcases r with _ | ⟨d, r⟩
      · simp at hx
      · have hc : 0 < c.toNat := by
          rcases Nat.eq_zero_or_pos c.toNat with h0 | h0
          · rw [h0] at hx; simp at hx
          · exact h0
        obtain ⟨m, hm⟩ : ∃ m, c.toNat = m + 1 := ⟨c.toNat - 1, by omega⟩
        rw [hm] at hx
        simp at hx
        subst hx
        rw [numErr_front h8 hs hc rfl] at hn
        simp at hn
    unfold putU
    rw [digs_valOf _ _ rfl hh]
    have e1 : (r.take c.toNat).length = c.toNat := by simp; omega
    rw [e1, Nat.add_comm, List.drop_succ_cons]
    simp
  · rw [if_pos hn] at h
    simp only [Prod.mk.injEq] at h
    exact absurd h.1 hn
end Go.Proofs.Ytpabbhhaagfoeaa
end

section
/- Plain facts on rows of numbers. -/
namespace Go.Proofs.Ytpabbhhaagfoeaa
set_option maxRecDepth 100000

def putAll : List Nat → List UInt8
  | [] => []
  | x :: l => putU x ++ putAll l
theorem putAll_append : ∀ (l m : List Nat), putAll (l ++ m) = putAll l ++ putAll m
  | [], m => rfl
  | x :: l, m => by simp [putAll, putAll_append l m]
theorem putAll_snoc (l : List Nat) (j : Nat) (h : j < l.length) : putAll (l.take (j + 1)) = putAll (l.take j) ++ putU l[j] := by
  rw [List.take_succ_eq_append_getElem h, putAll_append]
  simp [putAll]
theorem putAll_split (l : List Nat) (j : Nat) (h : j < l.length) : putAll l = putAll (l.take j) ++ (putU l[j] ++ putAll (l.drop (j + 1))) := by
  have e : l = l.take j ++ l[j] :: l.drop (j + 1) := by rw [← List.drop_eq_getElem_cons h]; exact (List.take_append_drop j l).symm
  calc putAll l = putAll (l.take j ++ l[j] :: l.drop (j + 1)) := by rw [← e]
    _ = _ := by rw [putAll_append]; rfl
theorem putAll_length : ∀ (l : List Nat), (∀ x ∈ l, x < 18446744073709551616) → (putAll l).length ≤ 9 * l.length
  | [], _ => by simp [putAll]
  | x :: l, h => by
    have h1 := putU_length x (h x List.mem_cons_self)
    have h2 := putAll_length l (fun y hy => h y (List.mem_cons_of_mem _ hy))
    simp [putAll]; omega
theorem putAll_mono (l : List Nat) {i j : Nat} (h : i ≤ j) : (putAll (l.take i)).length ≤ (putAll (l.take j)).length := by
  have e : l.take j = l.take i ++ (l.take j).drop i := by
    have : (l.take j).take i = l.take i := by rw [List.take_take, Nat.min_eq_left h]
    rw [← this, List.take_append_drop]
  rw [e, putAll_append]; simp

theorem putB_length' (b : List UInt8) (hb : b.length < 18446744073709551616) : (putB b).length ≤ b.length + 9 := by
  have := putU_length b.length hb
  simp [putB]; omega
theorem putU_pos (x : Nat) : 0 < (putU x).length := by simp [putU]
/-- A number's bytes cut short are no number. -/
theorem readUint_short {x : Nat} (hx : x < 18446744073709551616) {t : Nat} (ht : t < (putU x).length) : readUint 0 ((putU x).take t) = (10, [], 0) := by
  have h8 := digs_le8 hx
  have hl : (UInt8.ofNat (digs x).length).toNat = (digs x).length := by simp; omega
  have hn : numErr ((putU x).take t) = 10 := by
    rcases t with _ | t
    · rfl
    · unfold putU at ht ⊢
      rw [List.take_succ_cons]
      simp at ht
      refine numErr_short (by rw [hl]; omega) (by rw [hl]; simp; omega)
  unfold readUint
  rw [if_neg (by simp), if_pos (by rw [hn]; simp), hn]

/-- What is left behind j numbers of a row that is cut at k. -/
def restOf (l : List Nat) (k j : Nat) : List UInt8 := ((putAll l).take k).drop (putAll (l.take j)).length
theorem restOf_zero (l : List Nat) (k : Nat) : restOf l k 0 = (putAll l).take k := by simp [restOf, putAll]
theorem restOf_eq (l : List Nat) (k j : Nat) (h : j < l.length) : restOf l k j = (putU l[j] ++ putAll (l.drop (j + 1))).take (k - (putAll (l.take j)).length) := by
  unfold restOf
  rw [List.drop_take]
  congr 1
  rw [putAll_split l j h, List.drop_left]
theorem restOf_short (l : List Nat) (k j : Nat) (h : j < l.length) (hj : (putAll (l.take j)).length ≤ k) (hk : k < (putAll (l.take (j + 1))).length) (hx : ∀ x ∈ l, x < 18446744073709551616) : readUint 0 (restOf l k j) = (10, [], 0) := by
  rw [putAll_snoc l j h, List.length_append] at hk
  rw [restOf_eq l k j h, List.take_append_of_le_length (by omega)]
  exact readUint_short (hx _ (List.getElem_mem h)) (by omega)
theorem restOf_next (l : List Nat) (k j : Nat) (h : j < l.length) (hk : (putAll (l.take (j + 1))).length ≤ k) (hx : ∀ x ∈ l, x < 18446744073709551616) : readUint 0 (restOf l k j) = (0, restOf l k (j + 1), l[j]) := by
  have e : restOf l k j = putU l[j] ++ restOf l k (j + 1) := by
    have h1 := hk
    rw [putAll_snoc l j h, List.length_append] at h1
    rw [restOf_eq l k j h, List.take_append, List.take_of_length_le (by omega)]
    congr 1
    unfold restOf
    rw [List.drop_take, putAll_split l j h, putAll_snoc l j h, List.length_append, ← List.append_assoc, ← List.length_append, List.drop_left]
    congr 1
    rw [List.length_append]
    omega
  rw [e]
  exact readUint_put (hx _ (List.getElem_mem h)) _
theorem restOf_end (l : List Nat) (k : Nat) : restOf l k l.length = [] := by
  unfold restOf
  rw [List.take_length]
  exact List.drop_eq_nil_of_le (by simp; omega)
theorem restOf_le (l : List Nat) (k j : Nat) : (restOf l k j).length ≤ (putAll l).length := by simp [restOf]; omega

/-- Where each number ends. -/
def endsOf (l : List Nat) (n : Nat) : List Value := (List.range n).map fun t => Value.int .i64 ((putAll (l.take (t + 1))).length : Nat)
theorem endsOf_length (l : List Nat) (n : Nat) : (endsOf l n).length = n := by simp [endsOf]
theorem endsOf_succ (l : List Nat) (n : Nat) : endsOf l (n + 1) = endsOf l n ++ [Value.int .i64 ((putAll (l.take (n + 1))).length : Nat)] := by simp [endsOf, List.range_succ]
theorem endsOf_get (l : List Nat) (n j : Nat) (h : j < n) : (endsOf l n)[j]? = some (Value.int .i64 ((putAll (l.take (j + 1))).length : Nat)) := by simp [endsOf, h]
end Go.Proofs.Ytpabbhhaagfoeaa
end
